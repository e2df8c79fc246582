/- Layer 14, plain: one delta's atoms over another's: both orders meet. · Layer 14: moved. · Layer 14: a valid delta's changes; Place. · Layer 14, plain: places behind changes. -/
import Derived.Test.YtkmbkoajbmlgaaaMg23

section
namespace Go.Proofs.Ytkmbkoajbmlgaaa

/-- puts go first -/
def passP (g : List Atm → List Atm) : List Atm → List Atm
  | .p y :: b => .p y :: passP g b
  | b => g b
def byK (g : List Atm → List Atm) : List Atm → List Atm
  | .k :: b => .k :: g b
  | .d :: b => .d :: g b
  | b => g b
def byD (g : List Atm → List Atm) : List Atm → List Atm
  | .k :: b => g b
  | .d :: b => g b
  | b => g b
/-- the second over the first -/
def ovA (f : Bool) : List Atm → List Atm → List Atm
  | [] => putsA
  | .p _ :: a => if f then passP (fun b => .k :: ovA f a b) else fun b => .k :: ovA f a b
  | .k :: a => passP (byK (ovA f a))
  | .d :: a => passP (byD (ovA f a))
theorem ov_put (f : Bool) : ∀ (a : List Atm) (y : Int) (b : List Atm), (f = true ∨ ∀ x r, a ≠ .p x :: r) → ovA f a (.p y :: b) = .p y :: ovA f a b
  | [], _, _, _ => rfl
  | .k :: _, _, _, _ => rfl
  | .d :: _, _, _, _ => rfl
  | .p x :: a, y, b, h => by
    rcases h with rfl | h
    · rfl
    · exact absurd rfl (h x a)
theorem ov_puts (f : Bool) : ∀ (t : List Int) (a b : List Atm), (f = true ∨ ∀ x r, a ≠ .p x :: r) → ovA f a (t.map .p ++ b) = t.map .p ++ ovA f a b
  | [], _, _, _ => rfl
  | y :: t, a, b, h => by
    rw [List.map_cons, List.cons_append, ov_put f a y _ h, ov_puts f t a b h]; rfl
theorem ov_keep (f : Bool) (x : Int) (a b : List Atm) (h : f = false ∨ ∀ y r, b ≠ .p y :: r) : ovA f (.p x :: a) b = .k :: ovA f a b := by
  cases f with
  | false => rfl
  | true =>
    rcases h with h | h
    · cases h
    · cases b with
      | nil => rfl
      | cons z b => cases z with
        | p y => exact absurd rfl (h y b)
        | k => rfl
        | d => rfl
theorem ov_keeps (f : Bool) : ∀ (t : List Int) (a b : List Atm), (f = false ∨ ∀ y r, b ≠ .p y :: r) → ovA f (t.map .p ++ a) b = List.replicate t.length .k ++ ovA f a b
  | [], _, _, _ => rfl
  | x :: t, a, b, h => by
    rw [List.map_cons, List.cons_append, ov_keep f x _ b h, ov_keeps f t a b h, List.length_cons, List.replicate_succ]; rfl
theorem ov_kk (f : Bool) : ∀ (n : Nat) (a b : List Atm), ovA f (List.replicate n .k ++ a) (List.replicate n .k ++ b) = List.replicate n .k ++ ovA f a b
  | 0, _, _ => rfl
  | n + 1, a, b => by rw [List.replicate_succ, List.cons_append, List.cons_append, List.cons_append, ← ov_kk f n a b]; rfl
theorem ov_kd (f : Bool) : ∀ (n : Nat) (a b : List Atm), ovA f (List.replicate n .k ++ a) (List.replicate n .d ++ b) = List.replicate n .d ++ ovA f a b
  | 0, _, _ => rfl
  | n + 1, a, b => by rw [List.replicate_succ, List.replicate_succ, List.cons_append, List.cons_append, List.cons_append, ← ov_kd f n a b]; rfl
theorem ov_dk (f : Bool) : ∀ (n : Nat) (a b : List Atm), ovA f (List.replicate n .d ++ a) (List.replicate n .k ++ b) = ovA f a b
  | 0, _, _ => rfl
  | n + 1, a, b => by rw [List.replicate_succ, List.replicate_succ, List.cons_append, List.cons_append, ← ov_dk f n a b]; rfl
theorem ov_dd (f : Bool) : ∀ (n : Nat) (a b : List Atm), ovA f (List.replicate n .d ++ a) (List.replicate n .d ++ b) = ovA f a b
  | 0, _, _ => rfl
  | n + 1, a, b => by rw [List.replicate_succ, List.cons_append, List.cons_append, ← ov_dd f n a b]; rfl
/-- both orders meet -/
theorem ov_meet : ∀ (n : Nat) (a b : List Atm), a.length + b.length ≤ n → frA a = frA b → nfA (cmpA a (ovA false a b)) = nfA (cmpA b (ovA true b a))
  | _, [], [], _, _ => rfl
  | 0, _ :: _, _, h, _ => by simp at h
  | 0, [], _ :: _, h, _ => by simp at h
  | n + 1, [], .p y :: b, h, hf => by
    have ih := ov_meet n [] b (by simp at h ⊢; omega) (by simpa [frA] using hf)
    show Atm.p y :: nfA (cmpA [] (ovA false [] b)) = .p y :: nfA (cmpA b (ovA true b []))
    rw [ih]
  | n + 1, [], .k :: b, h, hf => by simp [frA] at hf
  | n + 1, [], .d :: b, h, hf => by simp [frA] at hf
  | n + 1, .p x :: a, b, h, hf => by
    have ih := ov_meet n a b (by simp at h ⊢; omega) (by simpa [frA] using hf)
    rw [ov_put true b x a (.inl rfl), cmp_put]
    show Atm.p x :: nfA (cmpA a (ovA false a b)) = _
    rw [ih]
  | n + 1, .k :: a, [], h, hf => by simp [frA] at hf
  | n + 1, .k :: a, .p y :: b, h, hf => by
    have ih := ov_meet n (.k :: a) b (by simp at h ⊢; omega) (by simpa [frA] using hf)
    rw [ov_put false (.k :: a) y b (.inr fun _ _ e => by cases e), cmp_put, ih]
    rfl
  | n + 1, .k :: a, .k :: b, h, hf => by
    have ih := ov_meet n a b (by simp at h ⊢; omega) (by simpa [frA] using hf)
    show Atm.k :: nfA (cmpA a (ovA false a b)) = .k :: nfA (cmpA b (ovA true b a))
    rw [ih]
  | n + 1, .k :: a, .d :: b, h, hf => by
    have ih := ov_meet n a b (by simp at h ⊢; omega) (by simpa [frA] using hf)
    show insD (nfA (cmpA a (ovA false a b))) = insD (nfA (cmpA b (ovA true b a)))
    rw [ih]
  | n + 1, .d :: a, [], h, hf => by simp [frA] at hf
  | n + 1, .d :: a, .p y :: b, h, hf => by
    have ih := ov_meet n (.d :: a) b (by simp at h ⊢; omega) (by simpa [frA] using hf)
    rw [ov_put false (.d :: a) y b (.inr fun _ _ e => by cases e), cmp_put, ih]
    rfl
  | n + 1, .d :: a, .k :: b, h, hf => by
    have ih := ov_meet n a b (by simp at h ⊢; omega) (by simpa [frA] using hf)
    show insD (nfA (cmpA a (ovA false a b))) = insD (nfA (cmpA b (ovA true b a)))
    rw [ih]
  | n + 1, .d :: a, .d :: b, h, hf => by
    have ih := ov_meet n a b (by simp at h ⊢; omega) (by simpa [frA] using hf)
    show insD (nfA (cmpA a (ovA false a b))) = insD (nfA (cmpA b (ovA true b a)))
    rw [ih]
/-- its sizes -/
theorem puts_fr : ∀ b : List Atm, frA b = 0 → frA (putsA b) = 0 ∧ toA (putsA b) = toA b
  | [], _ => ⟨rfl, rfl⟩
  | .p y :: b, h => by
    have := puts_fr b (by simpa [frA] using h)
    simp only [putsA, frA, toA]
    exact ⟨this.1, by rw [this.2]⟩
  | .k :: b, h => by simp [frA] at h
  | .d :: b, h => by simp [frA] at h
theorem ov_fr (f : Bool) : ∀ (n : Nat) (a b : List Atm), a.length + b.length ≤ n → frA a = frA b → frA (ovA f a b) = toA a
  | _, [], b, _, hf => (puts_fr b hf.symm).1
  | 0, _ :: _, _, h, _ => by simp at h
  | n + 1, .p x :: a, b, h, hf => by
    cases f with
    | false =>
      have ih := ov_fr false n a b (by simp at h ⊢; omega) (by simpa [frA] using hf)
      show frA (.k :: ovA false a b) = _
      simp only [frA, toA, ih]
    | true =>
      cases b with
      | nil =>
        have ih := ov_fr true n a [] (by simp at h ⊢; omega) (by simpa [frA] using hf)
        show frA (.k :: ovA true a []) = _
        simp only [frA, toA, ih]
      | cons z b => cases z with
        | p y =>
          have ih := ov_fr true n (.p x :: a) b (by simp at h ⊢; omega) (by simpa [frA] using hf)
          rw [ov_put true _ y b (.inl rfl)]
          exact ih
        | k =>
          have ih := ov_fr true n a (.k :: b) (by simp at h ⊢; omega) (by simpa [frA] using hf)
          show frA (.k :: ovA true a (.k :: b)) = _
          simp only [frA, toA, ih]
        | d =>
          have ih := ov_fr true n a (.d :: b) (by simp at h ⊢; omega) (by simpa [frA] using hf)
          show frA (.k :: ovA true a (.d :: b)) = _
          simp only [frA, toA, ih]
  | n + 1, .k :: a, [], h, hf => by simp [frA] at hf
  | n + 1, .k :: a, .p y :: b, h, hf => by
    have ih := ov_fr f n (.k :: a) b (by simp at h ⊢; omega) (by simpa [frA] using hf)
    rw [ov_put f _ y b (.inr fun _ _ e => by cases e)]
    exact ih
  | n + 1, .k :: a, .k :: b, h, hf => by
    have ih := ov_fr f n a b (by simp at h ⊢; omega) (by simpa [frA] using hf)
    show frA (.k :: ovA f a b) = _
    simp only [frA, toA, ih]
  | n + 1, .k :: a, .d :: b, h, hf => by
    have ih := ov_fr f n a b (by simp at h ⊢; omega) (by simpa [frA] using hf)
    show frA (.d :: ovA f a b) = _
    simp only [frA, toA, ih]
  | n + 1, .d :: a, [], h, hf => by simp [frA] at hf
  | n + 1, .d :: a, .p y :: b, h, hf => by
    have ih := ov_fr f n (.d :: a) b (by simp at h ⊢; omega) (by simpa [frA] using hf)
    rw [ov_put f _ y b (.inr fun _ _ e => by cases e)]
    exact ih
  | n + 1, .d :: a, .k :: b, h, hf => by
    have ih := ov_fr f n a b (by simp at h ⊢; omega) (by simpa [frA] using hf)
    show frA (ovA f a b) = _
    simp only [toA, ih]
  | n + 1, .d :: a, .d :: b, h, hf => by
    have ih := ov_fr f n a b (by simp at h ⊢; omega) (by simpa [frA] using hf)
    show frA (ovA f a b) = _
    simp only [toA, ih]
/-- what keeps all -/
theorem ov_id (f : Bool) : ∀ (b : List Atm), ovA f (List.replicate (frA b) .k) b = b
  | [] => rfl
  | .p y :: b => by
    rw [show frA (.p y :: b) = frA b from rfl, ov_put f _ y b (.inr fun x r e => by cases h : frA b with | zero => rw [h] at e; cases e | succ m => rw [h, List.replicate_succ] at e; cases e), ov_id f b]
  | .k :: b => by
    rw [show frA (.k :: b) = frA b + 1 by simp [frA]; try omega, List.replicate_succ]
    show Atm.k :: ovA f (List.replicate (frA b) .k) b = _
    rw [ov_id f b]
  | .d :: b => by
    rw [show frA (.d :: b) = frA b + 1 by simp [frA]; try omega, List.replicate_succ]
    show Atm.d :: ovA f (List.replicate (frA b) .k) b = _
    rw [ov_id f b]
theorem ov_all (f : Bool) : ∀ (a : List Atm), ovA f a (List.replicate (frA a) .k) = List.replicate (toA a) .k
  | [] => rfl
  | .p x :: a => by
    rw [ov_keep f x a _ (.inr fun y r e => by cases h : frA a with | zero => rw [show frA (.p x :: a) = frA a from rfl, h] at e; cases e | succ m => rw [show frA (.p x :: a) = frA a from rfl, h, List.replicate_succ] at e; cases e)]
    rw [show frA (.p x :: a) = frA a from rfl, ov_all f a, show toA (.p x :: a) = toA a + 1 by simp [toA]; try omega, List.replicate_succ]
  | .k :: a => by
    rw [show frA (.k :: a) = frA a + 1 by simp [frA]; try omega, List.replicate_succ, show toA (.k :: a) = toA a + 1 by simp [toA]; try omega, List.replicate_succ]
    show Atm.k :: ovA f a (List.replicate (frA a) .k) = _
    rw [ov_all f a]
  | .d :: a => by
    rw [show frA (.d :: a) = frA a + 1 by simp [frA]; try omega, List.replicate_succ]
    show ovA f a (List.replicate (frA a) .k) = _
    rw [ov_all f a]; rfl

end Go.Proofs.Ytkmbkoajbmlgaaa
end

section
namespace Go.Proofs.Ytkmbkoajbmlgaaa
open Go.ChangeShapes Go.WideShapes Go.ChangeAt Go.RowKit
attribute [local go_sem] Oper.semAt_some

/-- where a place is behind changes; s: what the text has grown by ahead of them -/
def mvC (p g : Int) : Int → List Dop → Int
  | s, [] => p + s
  | s, c :: r => if p < c.k then p + s else if p ≤ c.n then (if g = 1 then c.k + s else c.k + s + (c.t.length : Int)) else mvC p g (s + ((c.t.length : Int) - (c.n - c.k))) r
structure MvK (cs : List Dop) : Prop where
  b : ∀ k, k < cs.length → 0 ≤ (cs.getD k opZ).k ∧ (cs.getD k opZ).k ≤ (cs.getD k opZ).n ∧ (cs.getD k opZ).n ≤ 268435456 ∧ (cs.getD k opZ).t.length ≤ 536870912
  s : ∀ k, k ≤ cs.length → -1073741824 ≤ dlC (cs.take k) ∧ dlC (cs.take k) ≤ 1073741824
  l : cs.length ≤ 1073741824
theorem drop_getD {cs : List Dop} {k : Nat} (hk : k < cs.length) : cs.drop k = cs.getD k opZ :: cs.drop (k + 1) := by
  rw [List.drop_eq_getElem_cons hk]; simp [List.getD, List.getElem?_eq_getElem hk]
set_option maxRecDepth 100000 in
set_option maxHeartbeats 4000000 in
theorem moved_at (a : Option Addr) (c : Nat) (cs : List Dop) (p g : Int) (w : World) (h : IsO w a cs) (hk : MvK cs) (hp : 0 ≤ p ∧ p ≤ 268435456) :
    Calls Try.prog 72 #[.slice a cs.length c, .int .i64 p, .int .i64 g] w fun y w' => y = .returned (.int .i64 (mvC p g 0 cs)) ∧ Below w.heap.size w w' := by
  have HO := hide fun (X : World) (hx : Below w.heap.size w X) => h.below hx (Nat.le_refl _)
  have HK := hide hk
  have hll := hk.l
  obtain ⟨V, hV⟩ : ∃ V, V = mvC p g 0 cs := ⟨_, rfl⟩
  rw [← hV]
  have HV := hide hV
  clear h hk hV
  go_enter Try.func72, Try.ntmps72
  go_wp2_with fail
  go_loopw [7, 9, 12] (fun v7 v9 v12 wx => (∃ z, v9 = z) ∧ ∃ (k : Nat) (s : Int), v12 = .int .i64 (k : Int) ∧ v7 = .int .i64 s ∧ k ≤ cs.length ∧ Hid (s = dlC (cs.take k) ∧ Below w.heap.size w wx ∧ V = mvC p g s (cs.drop k))) (fun _ _ v12 _ => cs.length - (intOf v12).toNat)
  case atStart => exact ⟨⟨_, rfl⟩, ⟨0, 0, rfl, rfl, Nat.zero_le _, hide ⟨by simp [dlC], Below.refl _ _, by rw [unhide HV]; rfl⟩⟩⟩
  case round =>
    clear HV
    obtain ⟨⟨z1, rfl⟩, ⟨k, s, rfl, rfl, hk, HI⟩⟩ := hrel
    have hsb := (unhide HK).s k hk
    rw [← (unhide HI).1] at hsb
    by_cases hlt : k < cs.length
    · have t1 : decide ((k : Int) < (cs.length : Int)) = true := decide_eq_true (by omega)
      obtain ⟨ga, off, hga, _, c0', c1', c2'⟩ := (unhide HO wr (unhide HI).2.1).three hlt
      have hbx := (unhide HK).b k hlt
      have hs2 := (unhide HK).s (k + 1) hlt
      have hV := (unhide HI).2.2
      rw [drop_getD hlt] at hV
      have e1 := dlC_take cs k hlt
      rw [← (unhide HI).1] at e1
      have HBW := hide (unhide HI).2.1
      clear HI hk
      subst hga
      generalize cs.getD k opZ = q at *
      obtain ⟨xk, xn, xt⟩ := q
      dsimp only at c0' c1' c2' hbx e1
      have hsz := strOfNums_size xt
      have HBN := hide ((unhide HBW).alloc (unhide HBW).size (.cells #[.int .i64 xk, .int .i64 xn, .string (strOfNums xt)] 56))
      obtain ⟨d0, d1, d2⟩ := three_nwD wr (.int .i64 xk) (.int .i64 xn) (.string (strOfNums xt)) (t := 56)
      simp only [mvC] at hV
      clear HBW
      go_upto_region 5 with fail
      clear c0' c1' c2' t1
      generalize wr.alloc (.cells #[.int .i64 xk, .int .i64 xn, .string (strOfNums xt)] 56) = v0 at *
      generalize wr.heap.size = gb at *
      generalize strOfNums xt = st at *
      generalize xt.length = L at *
      by_cases h1 : p < xk
      · have t1 : decide (p < xk) = true := decide_eq_true h1
        rw [if_pos h1] at hV
        have w1 : wrap64 (p + s) = V := by rw [wrapD _ (by omega) (by omega), hV]
        clear hV hbx hs2 e1 hsz hsb h1
        go_wp2_with fail
        try rw [w1]
        refine bodyPost_ret (results_tmp rfl _ _ _) rfl ⟨rfl, unhide HBN⟩
      · have t1 : decide (p < xk) = false := decide_eq_false h1
        rw [if_neg h1] at hV
        by_cases h2 : p ≤ xn
        · have t2 : decide (p ≤ xn) = true := decide_eq_true h2
          rw [if_pos h2] at hV
          by_cases h3 : g = 1
          · subst h3
            rw [if_pos rfl] at hV
            have w1 : wrap64 (xk + s) = V := by rw [wrapD _ (by omega) (by omega), hV]
            clear hV hbx hs2 e1 hsz hsb h1 h2
            go_wp2_with fail
            try rw [w1]
            refine bodyPost_ret (results_tmp rfl _ _ _) rfl ⟨rfl, unhide HBN⟩
          · have t3 : (g == 1) = false := by simpa using h3
            rw [if_neg h3] at hV
            have w1 : wrap64 (xk + s) = xk + s := wrapD _ (by omega) (by omega)
            have w2 : wrap64 (xk + s + (L : Int)) = V := by rw [wrapD _ (by omega) (by omega), hV]
            clear hV hbx hs2 e1 hsb h1 h2
            go_wp2_with fail
            try rw [w1, w2]
            refine bodyPost_ret (results_tmp rfl _ _ _) rfl ⟨rfl, unhide HBN⟩
        · have t2 : decide (p ≤ xn) = false := decide_eq_false h2
          rw [if_neg h2] at hV
          have w1 : wrap64 (xn - xk) = xn - xk := wrapD _ (by omega) (by omega)
          have w2 : wrap64 ((L : Int) - (xn - xk)) = (L : Int) - (xn - xk) := wrapD _ (by omega) (by omega)
          have w3 : wrap64 (s + ((L : Int) - (xn - xk))) = s + ((L : Int) - (xn - xk)) := wrapD _ (by omega) (by omega)
          have HN := hide (And.intro e1.symm (And.intro (unhide HBN) hV))
          clear hV hbx hs2 e1 hsb h1 h2
          go_wp2_with fail
          go_roundw
          case rel => exact ⟨⟨_, rfl⟩, ⟨k + 1, s + ((L : Int) - (xn - xk)), by go_num, by first | rfl | rw [w3] | rw [w1, w2, w3], hlt, HN⟩⟩
          case measure => simp [intOf]; omega
    · obtain rfl : k = cs.length := by omega
      have t1 : decide ((cs.length : Int) < (cs.length : Int)) = false := by simp
      have hV := (unhide HI).2.2
      rw [List.drop_length] at hV
      simp only [mvC] at hV
      have w1 : wrap64 (p + s) = V := by rw [wrapD _ (by omega) (by omega), hV]
      have HBW := hide (unhide HI).2.1
      clear HI hV hsb hlt hk
      go_wp2_with fail
      try rw [w1]
      refine bodyPost_ret (results_tmp rfl _ _ _) rfl ⟨rfl, unhide HBW⟩

end Go.Proofs.Ytkmbkoajbmlgaaa
end

section
namespace Go.Proofs.Ytkmbkoajbmlgaaa
open Go.ChangeShapes Go.WideShapes Go.ChangeAt Go.RowKit
attribute [local go_sem] Oper.semAt_some

theorem chn_of_ap : ∀ {d : List Dop} (m : Int), (∀ o ∈ d, o.k = 1 ∨ o.k = 2 ∨ o.k = 3) → apL m d = true → Chn d
  | [], _, _, _ => trivial
  | [_], _, _, _ => trivial
  | o :: q :: r, m, hk, h => by
    simp only [apL, Bool.and_eq_true] at h
    refine ⟨?_, chn_of_ap (nextN o.k) (fun z hz => hk z (by simp [hz])) (by simp only [apL, Bool.and_eq_true]; exact h.2)⟩
    have h2 := h.2.1
    have ho := hk o (by simp)
    have hq := hk q (by simp)
    unfold okN
    rcases ho with h1 | h1 | h1 <;> rcases hq with h3 | h3 | h3 <;> rw [h1, h3] at h2 ⊢ <;> revert h2 <;> decide
theorem val_Can {d : List Dop} (hv : valB d = true) : Can d := by
  refine ⟨val_pln hv, chn_of_ap 7 (valB_k hv) ?_⟩
  unfold valB at hv
  simp only [Bool.and_eq_true] at hv
  exact hv.2.1
theorem gap_okL : ∀ {cs : List Dop} {p q n : Int}, GapC p cs → lstC p cs ≤ n → q ≤ p + 1 → q ≤ n → okL q cs n
  | [], _, _, _, _, _, _, h => h
  | c :: r, p, q, n, h, hl, hq, _ => by
    have h1 := h.1
    have h2 := h.2.1
    have h3 := (gap_le h.2.2).1
    simp only [lstC] at hl
    exact ⟨by omega, h2, by omega, gap_okL h.2.2 hl (by omega) (by omega)⟩
theorem gap_take : ∀ {cs : List Dop} {p : Int} (k : Nat), GapC p cs → GapC p (cs.take k) ∧ lstC p (cs.take k) ≤ lstC p cs
  | [], _, k, _ => by simp [GapC]
  | c :: r, p, 0, h => by
    have := (gap_le h).1
    simp only [List.take_zero, lstC]
    exact ⟨trivial, this⟩
  | c :: r, p, k + 1, h => by
    obtain ⟨h1, h2⟩ := gap_take k h.2.2
    simp only [List.take_succ_cons, lstC]
    exact ⟨⟨h.1, h.2.1, h1⟩, h2⟩
theorem lst0 {cs : List Dop} (h : GapC (-1) cs) : 0 ≤ lstC 0 cs ∧ (lstC 0 cs ≤ lstC (-1) cs ∨ cs = []) := by
  cases cs with
  | nil => exact ⟨Int.le_refl _, .inr rfl⟩
  | cons c r =>
    have := gap_le h
    have h2 := this.2 c (by simp)
    have h3 := (gap_le h.2.2).1
    simp only [lstC] at h3 ⊢
    have h4 := h.1
    have h5 := h.2.1
    exact ⟨by omega, .inl (Int.le_refl _)⟩
theorem opC_appS : ∀ (x y : List Dop) (p : Int), opC p (x ++ y) = opC p x ++ opC (lstC p x) y
  | [], _, _ => rfl
  | c :: r, y, p => by simp only [List.cons_append, opC, opC_appS r y c.n, lstC]
theorem toD_appS (x y : List Dop) : toD (x ++ y) = toD x + toD y := by simp [toD]
theorem mvK_of {d : List Dop} (hv : valB d = true) : MvK (runL d).2 ∧ (runL d).1 = frD d := by
  have hs := chs_run (val_Can hv)
  have hnn := (valB_nn hv).2
  have hm := hs.f
  generalize (runL d).2 = cs at *
  generalize (runL d).1 = m at *
  have hg := hs.g
  have hl := hs.l
  have hT : toD (opC 0 cs) ≤ toD d := by
    have h1 := congrArg toA hs.a
    rw [to_app, (frA_dA (opC_k 0 cs)).2, (frA_dA (valB_k hv)).2] at h1
    omega
  have key : ∀ k, 0 ≤ lstC 0 (cs.take k) ∧ lstC 0 (cs.take k) ≤ 268435456 ∧ toD (opC 0 (cs.take k)) ≤ 268435456 ∧ (toD (opC 0 (cs.take k)) : Int) = lstC 0 (cs.take k) + dlC (cs.take k) := fun k => by
    obtain ⟨t1, t2⟩ := gap_take k hg
    have t3 := lst0 t1
    have hbig : lstC (-1) cs ≤ 268435456 := by
      by_cases hc : cs = []
      · rw [hc]; simp [lstC]
      · have := lstC_two 0 (-1) hc
        omega
    have t4 : lstC 0 (cs.take k) ≤ 268435456 := by
      by_cases hc : cs.take k = []
      · rw [hc]; simp [lstC]
      · have := lstC_two 0 (-1) hc
        omega
    have t7 : lstC (-1) (cs.take k) ≤ 268435456 := by omega
    have t5 := opC_sizes (cs.take k) 0 268435456 (gap_okL t1 t7 (by omega) (by omega))
    have t6 : toD (opC 0 cs) = toD (opC 0 (cs.take k)) + toD (opC (lstC 0 (cs.take k)) (cs.drop k)) := by rw [← toD_appS, ← opC_appS, List.take_append_drop]
    exact ⟨t3.1, t4, by omega, by omega⟩
  have hbl : (cs.length : Int) ≤ 268435457 := by
    have h1 := gap_len hg
    by_cases hc : cs = []
    · rw [hc]; simp
    · have := lstC_two 0 (-1) hc
      omega
  refine ⟨⟨fun k hk => ?_, fun k _ => ?_, by omega⟩, hm⟩
  · obtain ⟨b1, b2, b3⟩ := (gap_le hg).2 _ (getD_memD hk)
    have hne : cs ≠ [] := fun e => by rw [e] at hk; simp at hk
    have b4 := lstC_two 0 (-1) hne
    have k1 := key k
    have k2 := key (k + 1)
    have e1 := dlC_take cs k hk
    have o1 := okL_at cs 0 268435456 (gap_okL hg (by omega) (by omega) (by omega)) k hk
    have e2 : lstC 0 (cs.take (k + 1)) = (cs.getD k opZ).n := by
      rw [List.take_add_one, List.getElem?_eq_getElem hk, Option.toList_some, lstC_sn]
      simp [List.getD_eq_getElem?_getD, List.getElem?_eq_getElem hk]
    exact ⟨by omega, b2, by omega, by omega⟩
  · have := key k
    exact ⟨by omega, by omega⟩
/-- what Place answers -/
def plE (d : List Dop) (p g : Int) : Int := if valB d then (if (0 ≤ p ∧ p ≤ frD d) ∧ (g = 1 ∨ g = 2) then 0 else 2) else 130
def plV (d : List Dop) (p g : Int) : Int := if plE d p g = 0 then mvC p g 0 (runL d).2 else 0

set_option maxRecDepth 100000 in
set_option maxHeartbeats 4000000 in
theorem Place_at (a : Option Addr) (c : Nat) (d : List Dop) (p g : Int) (w : World) (h : IsO w a d) (hl : d.length ≤ 4611686018427387904) :
    Calls Try.prog 28 #[.slice a d.length c, .int .i64 p, .int .i64 g] w fun y w' => y = .returned (.tuple #[.int .i64 (plV d p g), .int .i64 (plE d p g)]) ∧ Below w.heap.size w w' := by
  have HL := hide (Lens_at a c d w h hl)
  have HC := hide fun (X : World) (hX : Below w.heap.size w X) => Changes_at a c d X (h.below hX (Nat.le_refl _)) hl
  obtain ⟨V, hV⟩ : ∃ V, V = plV d p g := ⟨_, rfl⟩
  obtain ⟨E, hE⟩ : ∃ E, E = plE d p g := ⟨_, rfl⟩
  rw [← hV, ← hE]
  unfold plV at hV
  rw [← hE] at hV
  unfold plE at hE
  unfold lensV at HL
  cases hv : valB d with
  | false =>
    rw [hv] at HL hE
    simp only [Bool.false_eq_true, if_false] at HL hE
    rw [hE] at hV
    simp only [show ¬ ((130 : Int) = 0) by decide, if_false] at hV
    subst hE hV
    clear h hl HC hv
    go_enter Try.func28, Try.ntmps28
    go_wp2_with fail
    refine (unhide HL).mono ?_
    rintro y w1 ⟨rfl, x1⟩
    dsimp only
    clear HL
    go_wp2_with fail
    refine bodyPost_ret (results_tmp2 rfl _ _ _) rfl ⟨rfl, x1⟩
  | true =>
    obtain ⟨hmk, _⟩ := mvK_of hv
    have hfb := (valB_nn hv).2.1
    rw [hv] at HL hE
    simp only [if_true] at HL hE
    have hch : chD d = ((runL d).2, 0) := by unfold chD; rw [hv]; rfl
    rw [hch] at HC
    dsimp only at HC
    have HMV := hide fun (X : World) (a9 : Option Addr) (c9 : Nat) (h9 : IsO X a9 (runL d).2) (hp : 0 ≤ p ∧ p ≤ 268435456) => moved_at a9 c9 (runL d).2 p g X h9 hmk hp
    clear h hl hch hmk hv
    generalize (runL d).2 = cs at *
    generalize frD d = fr at *
    generalize toD d = td at *
    by_cases h1 : p < 0
    · rw [if_neg (by omega)] at hE
      rw [hE, if_neg (by decide)] at hV
      subst hE hV
      have t1 : decide (p < 0) = true := decide_eq_true h1
      clear HC HMV h1 hfb
      go_enter Try.func28, Try.ntmps28
      go_wp2_with fail
      refine (unhide HL).mono ?_
      rintro y w1 ⟨rfl, x1⟩
      dsimp only
      clear HL
      go_wp2_with fail
      refine bodyPost_ret (results_tmp2 rfl _ _ _) rfl ⟨rfl, x1⟩
    have t1 : decide (p < 0) = false := decide_eq_false h1
    by_cases h2 : p > (fr : Int)
    · rw [if_neg (by omega)] at hE
      rw [hE, if_neg (by decide)] at hV
      subst hE hV
      have t2 : decide (p > (fr : Int)) = true := decide_eq_true h2
      have t2' : decide ((fr : Int) < p) = true := decide_eq_true h2
      clear HC HMV h1 h2 hfb
      go_enter Try.func28, Try.ntmps28
      go_wp2_with fail
      refine (unhide HL).mono ?_
      rintro y w1 ⟨rfl, x1⟩
      dsimp only
      clear HL
      go_wp2_with fail
      refine bodyPost_ret (results_tmp2 rfl _ _ _) rfl ⟨rfl, x1⟩
    have t2 : decide (p > (fr : Int)) = false := decide_eq_false h2
    have t2' : decide ((fr : Int) < p) = false := decide_eq_false h2
    by_cases h3 : g = 1 ∨ g = 2
    · rw [if_pos (by omega)] at hE
      rw [hE, if_pos rfl] at hV
      have HP : Hid (0 ≤ p ∧ p ≤ 268435456) := hide (by omega)
      have HV := hide hV
      subst hE
      clear h1 h2 hfb hV
      rcases h3 with h3 | h3
      · subst h3
        go_enter Try.func28, Try.ntmps28
        go_wp2_with fail
        refine (unhide HL).mono ?_
        rintro y w1 ⟨rfl, x1⟩
        dsimp only
        have HX1 := hide x1
        have HC1 := hide (unhide HC w1 x1)
        clear HL HC x1
        go_wp2_with fail
        refine (unhide HC1).mono ?_
        rintro y w2 ⟨v, rfl, o2, x2⟩
        dsimp only
        obtain ⟨a9, c9, rfl, i9, _⟩ := own_isOC o2
        have HX2 := hide ((unhide HX1).trans (x2.mono (unhide HX1).size))
        have HM := hide (unhide HMV w2 a9 c9 i9 (unhide HP))
        rw [← unhide HV] at HM
        clear HC1 HX1 o2 x2 i9 HMV t1 t2 t2'
        go_wp2_with fail
        refine (unhide HM).mono ?_
        rintro y w3 ⟨rfl, x3⟩
        dsimp only
        have HX3 := hide ((unhide HX2).trans (x3.mono (unhide HX2).size))
        clear HM HX2 x3
        go_wp2_with fail
        refine bodyPost_ret (results_tmp2 rfl _ _ _) rfl ⟨rfl, unhide HX3⟩
      · subst h3
        go_enter Try.func28, Try.ntmps28
        go_wp2_with fail
        refine (unhide HL).mono ?_
        rintro y w1 ⟨rfl, x1⟩
        dsimp only
        have HX1 := hide x1
        have HC1 := hide (unhide HC w1 x1)
        clear HL HC x1
        go_wp2_with fail
        refine (unhide HC1).mono ?_
        rintro y w2 ⟨v, rfl, o2, x2⟩
        dsimp only
        obtain ⟨a9, c9, rfl, i9, _⟩ := own_isOC o2
        have HX2 := hide ((unhide HX1).trans (x2.mono (unhide HX1).size))
        have HM := hide (unhide HMV w2 a9 c9 i9 (unhide HP))
        rw [← unhide HV] at HM
        clear HC1 HX1 o2 x2 i9 HMV t1 t2 t2'
        go_wp2_with fail
        refine (unhide HM).mono ?_
        rintro y w3 ⟨rfl, x3⟩
        dsimp only
        have HX3 := hide ((unhide HX2).trans (x3.mono (unhide HX2).size))
        clear HM HX2 x3
        go_wp2_with fail
        refine bodyPost_ret (results_tmp2 rfl _ _ _) rfl ⟨rfl, unhide HX3⟩
    · rw [if_neg (by omega)] at hE
      rw [hE, if_neg (by decide)] at hV
      subst hE hV
      have t3 : (g != 1) = true := by simp; omega
      have t3' : (g == 1) = false := by simp; omega
      have t4 : (g != 2) = true := by simp; omega
      have t4' : (g == 2) = false := by simp; omega
      clear HC HMV h1 h2 hfb h3
      go_enter Try.func28, Try.ntmps28
      go_wp2_with fail
      refine (unhide HL).mono ?_
      rintro y w1 ⟨rfl, x1⟩
      dsimp only
      clear HL
      go_wp2_with fail
      refine bodyPost_ret (results_tmp2 rfl _ _ _) rfl ⟨rfl, x1⟩

end Go.Proofs.Ytkmbkoajbmlgaaa
end

section
namespace Go.Proofs.Ytkmbkoajbmlgaaa

theorem mv_lb (g : Int) : ∀ (cs : List Dop) (h q s : Int), GapC h cs → h ≤ q → h + s ≤ mvC q g s cs
  | [], h, q, s, _, hq => by simp only [mvC]; omega
  | c :: r, h, q, s, hg, hq => by
    have h1 := hg.1
    have h2 := hg.2.1
    simp only [mvC]
    split
    · omega
    · split
      · split <;> omega
      · have ih := mv_lb g r c.n q (s + ((c.t.length : Int) - (c.n - c.k))) hg.2.2 (by omega)
        omega
theorem mv_mono (g : Int) : ∀ (cs : List Dop) (h p q s : Int), GapC h cs → h ≤ p → p ≤ q → mvC p g s cs ≤ mvC q g s cs
  | [], _, p, q, s, _, _, hq => by simp only [mvC]; omega
  | c :: r, h, p, q, s, hg, hp, hq => by
    have h1 := hg.1
    have h2 := hg.2.1
    have lb : c.n < q → c.n + (s + ((c.t.length : Int) - (c.n - c.k))) ≤ mvC q g (s + ((c.t.length : Int) - (c.n - c.k))) r := fun h => mv_lb g r c.n q _ hg.2.2 (by omega)
    simp only [mvC]
    by_cases p1 : p < c.k
    · rw [if_pos p1]
      by_cases q1 : q < c.k
      · rw [if_pos q1]; omega
      · rw [if_neg q1]
        by_cases q2 : q ≤ c.n
        · rw [if_pos q2]; split <;> omega
        · rw [if_neg q2]
          have := lb (by omega)
          omega
    · rw [if_neg p1, if_neg (show ¬ q < c.k by omega)]
      by_cases p2 : p ≤ c.n
      · rw [if_pos p2]
        by_cases q2 : q ≤ c.n
        · rw [if_pos q2]; exact Int.le_refl _
        · rw [if_neg q2]
          have := lb (by omega)
          split <;> omega
      · rw [if_neg p2, if_neg (show ¬ q ≤ c.n by omega)]
        exact mv_mono g r c.n p q _ hg.2.2 (by omega) hq
theorem mv_lr : ∀ (cs : List Dop) (p s : Int), mvC p 1 s cs ≤ mvC p 2 s cs
  | [], _, _ => Int.le_refl _
  | c :: r, p, s => by
    simp only [mvC]
    split
    · exact Int.le_refl _
    · split
      · simp; omega
      · exact mv_lr r p _
theorem mv_end : ∀ (cs : List Dop) (h n s : Int), GapC h cs → lstC h cs ≤ n → mvC n 2 s cs = n + s + dlC cs
  | [], _, _, _, _, _ => by simp [mvC, dlC]
  | c :: r, h, n, s, hg, hl => by
    have h1 := hg.1
    have h2 := hg.2.1
    have h3 := gap_le hg.2.2
    simp only [lstC] at hl
    simp only [mvC, dlC]
    rw [if_neg (by omega)]
    by_cases q2 : n ≤ c.n
    · rw [if_pos q2, if_neg (by decide)]
      cases r with
      | nil => simp only [dlC]; omega
      | cons c2 r2 =>
        have := hg.2.2.1
        have := hg.2.2.2.1
        have := h3.2 c2 (by simp)
        omega
    · rw [if_neg q2, mv_end r c.n n _ hg.2.2 hl]
      omega
theorem mv_zero : ∀ (cs : List Dop), GapC (-1) cs → mvC 0 1 0 cs = 0
  | [], _ => rfl
  | c :: r, hg => by
    have h1 := hg.1
    have h2 := hg.2.1
    simp only [mvC]
    by_cases q : (0 : Int) < c.k
    · rw [if_pos q]; rfl
    · rw [if_neg q, if_pos (by omega)]; simp; omega
/-- the lengths by the changes -/
theorem to_ch {d : List Dop} (hv : valB d = true) : GapC (-1) (runL d).2 ∧ lstC (-1) (runL d).2 ≤ frD d ∧ (toD d : Int) = frD d + dlC (runL d).2 := by
  have hs := chs_run (val_Can hv)
  have hm := hs.f
  generalize (runL d).2 = cs at *
  generalize (runL d).1 = m at *
  have hl := hs.l
  have hg := hs.g
  have hlm : lstC (-1) cs ≤ m := by
    by_cases hc : cs = []
    · rw [hc]; simp only [lstC]; omega
    · have := lstC_two 0 (-1) hc
      omega
  have t5 := opC_sizes cs 0 m (gap_okL hg hlm (by omega) (by omega))
  have h1 := congrArg toA hs.a
  rw [to_app, (frA_dA (opC_k 0 cs)).2, (frA_dA (valB_k hv)).2, (fr_rep_k _).2] at h1
  exact ⟨hg, by omega, by omega⟩
theorem pl_zero {d : List Dop} {p g : Int} (hv : valB d = true) (hp : 0 ≤ p ∧ p ≤ frD d) (hg : g = 1 ∨ g = 2) : plE d p g = 0 ∧ plV d p g = mvC p g 0 (runL d).2 := by
  have h : plE d p g = 0 := by unfold plE; rw [hv, if_pos rfl, if_pos ⟨hp, hg⟩]
  exact ⟨h, by unfold plV; rw [if_pos h]⟩

end Go.Proofs.Ytkmbkoajbmlgaaa
end
