/- Layer 14, plain: one delta's atoms over another's: both orders meet. · Layer 14: moved. -/
import Derived.Test.YtifpjdodignflaaRv31

section
namespace Go.Proofs.Ytifpjdodignflaa

/-- puts go first -/
def passP (g : List Atm → List Atm) : List Atm → List Atm
  | .p y :: b => .p y :: passP g b
  | b => g b
def byK (g : List Atm → List Atm) : List Atm → List Atm
  | .k :: b => .k :: g b
  | .d :: b => .d :: g b
  | b => g b
def byD (g : List Atm → List Atm) : List Atm → List Atm
  | .k :: b => g b
  | .d :: b => g b
  | b => g b
/-- the second over the first -/
def ovA (f : Bool) : List Atm → List Atm → List Atm
  | [] => putsA
  | .p _ :: a => if f then passP (fun b => .k :: ovA f a b) else fun b => .k :: ovA f a b
  | .k :: a => passP (byK (ovA f a))
  | .d :: a => passP (byD (ovA f a))
theorem ov_put (f : Bool) : ∀ (a : List Atm) (y : Int) (b : List Atm), (f = true ∨ ∀ x r, a ≠ .p x :: r) → ovA f a (.p y :: b) = .p y :: ovA f a b
  | [], _, _, _ => rfl
  | .k :: _, _, _, _ => rfl
  | .d :: _, _, _, _ => rfl
  | .p x :: a, y, b, h => by
    rcases h with rfl | h
    · rfl
    · exact absurd rfl (h x a)
theorem ov_puts (f : Bool) : ∀ (t : List Int) (a b : List Atm), (f = true ∨ ∀ x r, a ≠ .p x :: r) → ovA f a (t.map .p ++ b) = t.map .p ++ ovA f a b
  | [], _, _, _ => rfl
  | y :: t, a, b, h => by
    rw [List.map_cons, List.cons_append, ov_put f a y _ h, ov_puts f t a b h]; rfl
theorem ov_keep (f : Bool) (x : Int) (a b : List Atm) (h : f = false ∨ ∀ y r, b ≠ .p y :: r) : ovA f (.p x :: a) b = .k :: ovA f a b := by
  cases f with
  | false => rfl
  | true =>
    rcases h with h | h
    · cases h
    · cases b with
      | nil => rfl
      | cons z b => cases z with
        | p y => exact absurd rfl (h y b)
        | k => rfl
        | d => rfl
theorem ov_keeps (f : Bool) : ∀ (t : List Int) (a b : List Atm), (f = false ∨ ∀ y r, b ≠ .p y :: r) → ovA f (t.map .p ++ a) b = List.replicate t.length .k ++ ovA f a b
  | [], _, _, _ => rfl
  | x :: t, a, b, h => by
    rw [List.map_cons, List.cons_append, ov_keep f x _ b h, ov_keeps f t a b h, List.length_cons, List.replicate_succ]; rfl
theorem ov_kk (f : Bool) : ∀ (n : Nat) (a b : List Atm), ovA f (List.replicate n .k ++ a) (List.replicate n .k ++ b) = List.replicate n .k ++ ovA f a b
  | 0, _, _ => rfl
  | n + 1, a, b => by rw [List.replicate_succ, List.cons_append, List.cons_append, List.cons_append, ← ov_kk f n a b]; rfl
theorem ov_kd (f : Bool) : ∀ (n : Nat) (a b : List Atm), ovA f (List.replicate n .k ++ a) (List.replicate n .d ++ b) = List.replicate n .d ++ ovA f a b
  | 0, _, _ => rfl
  | n + 1, a, b => by rw [List.replicate_succ, List.replicate_succ, List.cons_append, List.cons_append, List.cons_append, ← ov_kd f n a b]; rfl
theorem ov_dk (f : Bool) : ∀ (n : Nat) (a b : List Atm), ovA f (List.replicate n .d ++ a) (List.replicate n .k ++ b) = ovA f a b
  | 0, _, _ => rfl
  | n + 1, a, b => by rw [List.replicate_succ, List.replicate_succ, List.cons_append, List.cons_append, ← ov_dk f n a b]; rfl
theorem ov_dd (f : Bool) : ∀ (n : Nat) (a b : List Atm), ovA f (List.replicate n .d ++ a) (List.replicate n .d ++ b) = ovA f a b
  | 0, _, _ => rfl
  | n + 1, a, b => by rw [List.replicate_succ, List.cons_append, List.cons_append, ← ov_dd f n a b]; rfl
/-- both orders meet -/
theorem ov_meet : ∀ (n : Nat) (a b : List Atm), a.length + b.length ≤ n → frA a = frA b → nfA (cmpA a (ovA false a b)) = nfA (cmpA b (ovA true b a))
  | _, [], [], _, _ => rfl
  | 0, _ :: _, _, h, _ => by simp at h
  | 0, [], _ :: _, h, _ => by simp at h
  | n + 1, [], .p y :: b, h, hf => by
    have ih := ov_meet n [] b (by simp at h ⊢; omega) (by simpa [frA] using hf)
    show Atm.p y :: nfA (cmpA [] (ovA false [] b)) = .p y :: nfA (cmpA b (ovA true b []))
    rw [ih]
  | n + 1, [], .k :: b, h, hf => by simp [frA] at hf
  | n + 1, [], .d :: b, h, hf => by simp [frA] at hf
  | n + 1, .p x :: a, b, h, hf => by
    have ih := ov_meet n a b (by simp at h ⊢; omega) (by simpa [frA] using hf)
    rw [ov_put true b x a (.inl rfl), cmp_put]
    show Atm.p x :: nfA (cmpA a (ovA false a b)) = _
    rw [ih]
  | n + 1, .k :: a, [], h, hf => by simp [frA] at hf
  | n + 1, .k :: a, .p y :: b, h, hf => by
    have ih := ov_meet n (.k :: a) b (by simp at h ⊢; omega) (by simpa [frA] using hf)
    rw [ov_put false (.k :: a) y b (.inr fun _ _ e => by cases e), cmp_put, ih]
    rfl
  | n + 1, .k :: a, .k :: b, h, hf => by
    have ih := ov_meet n a b (by simp at h ⊢; omega) (by simpa [frA] using hf)
    show Atm.k :: nfA (cmpA a (ovA false a b)) = .k :: nfA (cmpA b (ovA true b a))
    rw [ih]
  | n + 1, .k :: a, .d :: b, h, hf => by
    have ih := ov_meet n a b (by simp at h ⊢; omega) (by simpa [frA] using hf)
    show insD (nfA (cmpA a (ovA false a b))) = insD (nfA (cmpA b (ovA true b a)))
    rw [ih]
  | n + 1, .d :: a, [], h, hf => by simp [frA] at hf
  | n + 1, .d :: a, .p y :: b, h, hf => by
    have ih := ov_meet n (.d :: a) b (by simp at h ⊢; omega) (by simpa [frA] using hf)
    rw [ov_put false (.d :: a) y b (.inr fun _ _ e => by cases e), cmp_put, ih]
    rfl
  | n + 1, .d :: a, .k :: b, h, hf => by
    have ih := ov_meet n a b (by simp at h ⊢; omega) (by simpa [frA] using hf)
    show insD (nfA (cmpA a (ovA false a b))) = insD (nfA (cmpA b (ovA true b a)))
    rw [ih]
  | n + 1, .d :: a, .d :: b, h, hf => by
    have ih := ov_meet n a b (by simp at h ⊢; omega) (by simpa [frA] using hf)
    show insD (nfA (cmpA a (ovA false a b))) = insD (nfA (cmpA b (ovA true b a)))
    rw [ih]
/-- its sizes -/
theorem puts_fr : ∀ b : List Atm, frA b = 0 → frA (putsA b) = 0 ∧ toA (putsA b) = toA b
  | [], _ => ⟨rfl, rfl⟩
  | .p y :: b, h => by
    have := puts_fr b (by simpa [frA] using h)
    simp only [putsA, frA, toA]
    exact ⟨this.1, by rw [this.2]⟩
  | .k :: b, h => by simp [frA] at h
  | .d :: b, h => by simp [frA] at h
theorem ov_fr (f : Bool) : ∀ (n : Nat) (a b : List Atm), a.length + b.length ≤ n → frA a = frA b → frA (ovA f a b) = toA a
  | _, [], b, _, hf => (puts_fr b hf.symm).1
  | 0, _ :: _, _, h, _ => by simp at h
  | n + 1, .p x :: a, b, h, hf => by
    cases f with
    | false =>
      have ih := ov_fr false n a b (by simp at h ⊢; omega) (by simpa [frA] using hf)
      show frA (.k :: ovA false a b) = _
      simp only [frA, toA, ih]
    | true =>
      cases b with
      | nil =>
        have ih := ov_fr true n a [] (by simp at h ⊢; omega) (by simpa [frA] using hf)
        show frA (.k :: ovA true a []) = _
        simp only [frA, toA, ih]
      | cons z b => cases z with
        | p y =>
          have ih := ov_fr true n (.p x :: a) b (by simp at h ⊢; omega) (by simpa [frA] using hf)
          rw [ov_put true _ y b (.inl rfl)]
          exact ih
        | k =>
          have ih := ov_fr true n a (.k :: b) (by simp at h ⊢; omega) (by simpa [frA] using hf)
          show frA (.k :: ovA true a (.k :: b)) = _
          simp only [frA, toA, ih]
        | d =>
          have ih := ov_fr true n a (.d :: b) (by simp at h ⊢; omega) (by simpa [frA] using hf)
          show frA (.k :: ovA true a (.d :: b)) = _
          simp only [frA, toA, ih]
  | n + 1, .k :: a, [], h, hf => by simp [frA] at hf
  | n + 1, .k :: a, .p y :: b, h, hf => by
    have ih := ov_fr f n (.k :: a) b (by simp at h ⊢; omega) (by simpa [frA] using hf)
    rw [ov_put f _ y b (.inr fun _ _ e => by cases e)]
    exact ih
  | n + 1, .k :: a, .k :: b, h, hf => by
    have ih := ov_fr f n a b (by simp at h ⊢; omega) (by simpa [frA] using hf)
    show frA (.k :: ovA f a b) = _
    simp only [frA, toA, ih]
  | n + 1, .k :: a, .d :: b, h, hf => by
    have ih := ov_fr f n a b (by simp at h ⊢; omega) (by simpa [frA] using hf)
    show frA (.d :: ovA f a b) = _
    simp only [frA, toA, ih]
  | n + 1, .d :: a, [], h, hf => by simp [frA] at hf
  | n + 1, .d :: a, .p y :: b, h, hf => by
    have ih := ov_fr f n (.d :: a) b (by simp at h ⊢; omega) (by simpa [frA] using hf)
    rw [ov_put f _ y b (.inr fun _ _ e => by cases e)]
    exact ih
  | n + 1, .d :: a, .k :: b, h, hf => by
    have ih := ov_fr f n a b (by simp at h ⊢; omega) (by simpa [frA] using hf)
    show frA (ovA f a b) = _
    simp only [toA, ih]
  | n + 1, .d :: a, .d :: b, h, hf => by
    have ih := ov_fr f n a b (by simp at h ⊢; omega) (by simpa [frA] using hf)
    show frA (ovA f a b) = _
    simp only [toA, ih]
/-- what keeps all -/
theorem ov_id (f : Bool) : ∀ (b : List Atm), ovA f (List.replicate (frA b) .k) b = b
  | [] => rfl
  | .p y :: b => by
    rw [show frA (.p y :: b) = frA b from rfl, ov_put f _ y b (.inr fun x r e => by cases h : frA b with | zero => rw [h] at e; cases e | succ m => rw [h, List.replicate_succ] at e; cases e), ov_id f b]
  | .k :: b => by
    rw [show frA (.k :: b) = frA b + 1 by simp [frA]; try omega, List.replicate_succ]
    show Atm.k :: ovA f (List.replicate (frA b) .k) b = _
    rw [ov_id f b]
  | .d :: b => by
    rw [show frA (.d :: b) = frA b + 1 by simp [frA]; try omega, List.replicate_succ]
    show Atm.d :: ovA f (List.replicate (frA b) .k) b = _
    rw [ov_id f b]
theorem ov_all (f : Bool) : ∀ (a : List Atm), ovA f a (List.replicate (frA a) .k) = List.replicate (toA a) .k
  | [] => rfl
  | .p x :: a => by
    rw [ov_keep f x a _ (.inr fun y r e => by cases h : frA a with | zero => rw [show frA (.p x :: a) = frA a from rfl, h] at e; cases e | succ m => rw [show frA (.p x :: a) = frA a from rfl, h, List.replicate_succ] at e; cases e)]
    rw [show frA (.p x :: a) = frA a from rfl, ov_all f a, show toA (.p x :: a) = toA a + 1 by simp [toA]; try omega, List.replicate_succ]
  | .k :: a => by
    rw [show frA (.k :: a) = frA a + 1 by simp [frA]; try omega, List.replicate_succ, show toA (.k :: a) = toA a + 1 by simp [toA]; try omega, List.replicate_succ]
    show Atm.k :: ovA f a (List.replicate (frA a) .k) = _
    rw [ov_all f a]
  | .d :: a => by
    rw [show frA (.d :: a) = frA a + 1 by simp [frA]; try omega, List.replicate_succ]
    show ovA f a (List.replicate (frA a) .k) = _
    rw [ov_all f a]; rfl

end Go.Proofs.Ytifpjdodignflaa
end

section
namespace Go.Proofs.Ytifpjdodignflaa
open Go.ChangeShapes Go.WideShapes Go.ChangeAt Go.RowKit
attribute [local go_sem] Oper.semAt_some

/-- where a place is behind changes; s: what the text has grown by ahead of them -/
def mvC (p g : Int) : Int → List Dop → Int
  | s, [] => p + s
  | s, c :: r => if p < c.k then p + s else if p ≤ c.n then (if g = 1 then c.k + s else c.k + s + (c.t.length : Int)) else mvC p g (s + ((c.t.length : Int) - (c.n - c.k))) r
structure MvK (cs : List Dop) : Prop where
  b : ∀ k, k < cs.length → 0 ≤ (cs.getD k opZ).k ∧ (cs.getD k opZ).k ≤ (cs.getD k opZ).n ∧ (cs.getD k opZ).n ≤ 268435456 ∧ (cs.getD k opZ).t.length ≤ 536870912
  s : ∀ k, k ≤ cs.length → -1073741824 ≤ dlC (cs.take k) ∧ dlC (cs.take k) ≤ 1073741824
  l : cs.length ≤ 1073741824
theorem drop_getD {cs : List Dop} {k : Nat} (hk : k < cs.length) : cs.drop k = cs.getD k opZ :: cs.drop (k + 1) := by
  rw [List.drop_eq_getElem_cons hk]; simp [List.getD, List.getElem?_eq_getElem hk]
set_option maxRecDepth 100000 in
set_option maxHeartbeats 4000000 in
theorem moved_at (a : Option Addr) (c : Nat) (cs : List Dop) (p g : Int) (w : World) (h : IsO w a cs) (hk : MvK cs) (hp : 0 ≤ p ∧ p ≤ 268435456) :
    Calls Try.prog 68 #[.slice a cs.length c, .int .i64 p, .int .i64 g] w fun y w' => y = .returned (.int .i64 (mvC p g 0 cs)) ∧ Below w.heap.size w w' := by
  have HO := hide fun (X : World) (hx : Below w.heap.size w X) => h.below hx (Nat.le_refl _)
  have HK := hide hk
  have hll := hk.l
  obtain ⟨V, hV⟩ : ∃ V, V = mvC p g 0 cs := ⟨_, rfl⟩
  rw [← hV]
  have HV := hide hV
  clear h hk hV
  go_enter Try.func68, Try.ntmps68
  go_wp2_with fail
  go_loopw [7, 9, 12] (fun v7 v9 v12 wx => (∃ z, v9 = z) ∧ ∃ (k : Nat) (s : Int), v12 = .int .i64 (k : Int) ∧ v7 = .int .i64 s ∧ k ≤ cs.length ∧ Hid (s = dlC (cs.take k) ∧ Below w.heap.size w wx ∧ V = mvC p g s (cs.drop k))) (fun _ _ v12 _ => cs.length - (intOf v12).toNat)
  case atStart => exact ⟨⟨_, rfl⟩, ⟨0, 0, rfl, rfl, Nat.zero_le _, hide ⟨by simp [dlC], Below.refl _ _, by rw [unhide HV]; rfl⟩⟩⟩
  case round =>
    clear HV
    obtain ⟨⟨z1, rfl⟩, ⟨k, s, rfl, rfl, hk, HI⟩⟩ := hrel
    have hsb := (unhide HK).s k hk
    rw [← (unhide HI).1] at hsb
    by_cases hlt : k < cs.length
    · have t1 : decide ((k : Int) < (cs.length : Int)) = true := decide_eq_true (by omega)
      obtain ⟨ga, off, hga, _, c0', c1', c2'⟩ := (unhide HO wr (unhide HI).2.1).three hlt
      have hbx := (unhide HK).b k hlt
      have hs2 := (unhide HK).s (k + 1) hlt
      have hV := (unhide HI).2.2
      rw [drop_getD hlt] at hV
      have e1 := dlC_take cs k hlt
      rw [← (unhide HI).1] at e1
      have HBW := hide (unhide HI).2.1
      clear HI hk
      subst hga
      generalize cs.getD k opZ = q at *
      obtain ⟨xk, xn, xt⟩ := q
      dsimp only at c0' c1' c2' hbx e1
      have hsz := strOfNums_size xt
      have HBN := hide ((unhide HBW).alloc (unhide HBW).size (.cells #[.int .i64 xk, .int .i64 xn, .string (strOfNums xt)] 113))
      obtain ⟨d0, d1, d2⟩ := three_nwD wr (.int .i64 xk) (.int .i64 xn) (.string (strOfNums xt)) (t := 113)
      simp only [mvC] at hV
      clear HBW
      go_upto_region 5 with fail
      clear c0' c1' c2' t1
      generalize wr.alloc (.cells #[.int .i64 xk, .int .i64 xn, .string (strOfNums xt)] 113) = v0 at *
      generalize wr.heap.size = gb at *
      generalize strOfNums xt = st at *
      generalize xt.length = L at *
      by_cases h1 : p < xk
      · have t1 : decide (p < xk) = true := decide_eq_true h1
        rw [if_pos h1] at hV
        have w1 : wrap64 (p + s) = V := by rw [wrapD _ (by omega) (by omega), hV]
        clear hV hbx hs2 e1 hsz hsb h1
        go_wp2_with fail
        try rw [w1]
        refine bodyPost_ret (results_tmp rfl _ _ _) rfl ⟨rfl, unhide HBN⟩
      · have t1 : decide (p < xk) = false := decide_eq_false h1
        rw [if_neg h1] at hV
        by_cases h2 : p ≤ xn
        · have t2 : decide (p ≤ xn) = true := decide_eq_true h2
          rw [if_pos h2] at hV
          by_cases h3 : g = 1
          · subst h3
            rw [if_pos rfl] at hV
            have w1 : wrap64 (xk + s) = V := by rw [wrapD _ (by omega) (by omega), hV]
            clear hV hbx hs2 e1 hsz hsb h1 h2
            go_wp2_with fail
            try rw [w1]
            refine bodyPost_ret (results_tmp rfl _ _ _) rfl ⟨rfl, unhide HBN⟩
          · have t3 : (g == 1) = false := by simpa using h3
            rw [if_neg h3] at hV
            have w1 : wrap64 (xk + s) = xk + s := wrapD _ (by omega) (by omega)
            have w2 : wrap64 (xk + s + (L : Int)) = V := by rw [wrapD _ (by omega) (by omega), hV]
            clear hV hbx hs2 e1 hsb h1 h2
            go_wp2_with fail
            try rw [w1, w2]
            refine bodyPost_ret (results_tmp rfl _ _ _) rfl ⟨rfl, unhide HBN⟩
        · have t2 : decide (p ≤ xn) = false := decide_eq_false h2
          rw [if_neg h2] at hV
          have w1 : wrap64 (xn - xk) = xn - xk := wrapD _ (by omega) (by omega)
          have w2 : wrap64 ((L : Int) - (xn - xk)) = (L : Int) - (xn - xk) := wrapD _ (by omega) (by omega)
          have w3 : wrap64 (s + ((L : Int) - (xn - xk))) = s + ((L : Int) - (xn - xk)) := wrapD _ (by omega) (by omega)
          have HN := hide (And.intro e1.symm (And.intro (unhide HBN) hV))
          clear hV hbx hs2 e1 hsb h1 h2
          go_wp2_with fail
          go_roundw
          case rel => exact ⟨⟨_, rfl⟩, ⟨k + 1, s + ((L : Int) - (xn - xk)), by go_num, by first | rfl | rw [w3] | rw [w1, w2, w3], hlt, HN⟩⟩
          case measure => simp [intOf]; omega
    · obtain rfl : k = cs.length := by omega
      have t1 : decide ((cs.length : Int) < (cs.length : Int)) = false := by simp
      have hV := (unhide HI).2.2
      rw [List.drop_length] at hV
      simp only [mvC] at hV
      have w1 : wrap64 (p + s) = V := by rw [wrapD _ (by omega) (by omega), hV]
      have HBW := hide (unhide HI).2.1
      clear HI hV hsb hlt hk
      go_wp2_with fail
      try rw [w1]
      refine bodyPost_ret (results_tmp rfl _ _ _) rfl ⟨rfl, unhide HBW⟩

end Go.Proofs.Ytifpjdodignflaa
end
