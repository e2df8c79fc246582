/- Layer 13, plain: what becomes of a text, byte by byte: kept, dropped, put; the order of what is put and dropped between two kept bytes does not matter; one behind the other; taken back. -/
import Derived.Below

namespace Go.Proofs.YtkdnanlgkedjgabDoor

/-- one byte is kept, or dropped, or put -/
inductive Atm where
  | k : Atm
  | d : Atm
  | p : Int → Atm
/-- a dropped byte goes behind what is put at the same place -/
def insD : List Atm → List Atm
  | .p x :: a => .p x :: insD a
  | a => .d :: a
def nfA : List Atm → List Atm
  | [] => []
  | .k :: a => .k :: nfA a
  | .p x :: a => .p x :: nfA a
  | .d :: a => insD (nfA a)
theorem nf_ins : ∀ a : List Atm, nfA (insD a) = insD (nfA a)
  | [] => rfl
  | .k :: _ => rfl
  | .d :: _ => rfl
  | .p x :: a => by simp only [insD, nfA]; rw [nf_ins a]
theorem nf_nf : ∀ a : List Atm, nfA (nfA a) = nfA a
  | [] => rfl
  | .k :: a => by simp only [nfA]; rw [nf_nf a]
  | .p x :: a => by simp only [nfA]; rw [nf_nf a]
  | .d :: a => by simp only [nfA]; rw [nf_ins, nf_nf a]
theorem nf_app_left : ∀ (a : List Atm) {u v : List Atm}, nfA u = nfA v → nfA (a ++ u) = nfA (a ++ v)
  | [], _, _, h => h
  | .k :: a, _, _, h => by simp only [List.cons_append, nfA]; rw [nf_app_left a h]
  | .p x :: a, _, _, h => by simp only [List.cons_append, nfA]; rw [nf_app_left a h]
  | .d :: a, _, _, h => by simp only [List.cons_append, nfA]; rw [nf_app_left a h]
theorem nf_ins_app : ∀ (s v : List Atm), nfA (insD s ++ v) = insD (nfA (s ++ v))
  | [], _ => rfl
  | .k :: _, _ => rfl
  | .d :: _, _ => rfl
  | .p x :: s, v => by simp only [insD, List.cons_append, nfA]; rw [nf_ins_app s v]
theorem nf_app_nf : ∀ (a v : List Atm), nfA (nfA a ++ v) = nfA (a ++ v)
  | [], _ => rfl
  | .k :: a, v => by simp only [List.cons_append, nfA]; rw [nf_app_nf a v]
  | .p x :: a, v => by simp only [List.cons_append, nfA]; rw [nf_app_nf a v]
  | .d :: a, v => by simp only [List.cons_append, nfA]; rw [nf_ins_app, nf_app_nf a v]
theorem nf_app_right {a b : List Atm} (h : nfA a = nfA b) (v : List Atm) : nfA (a ++ v) = nfA (b ++ v) := by rw [← nf_app_nf a, h, nf_app_nf]
theorem nf_app {a b u v : List Atm} (h : nfA a = nfA b) (h' : nfA u = nfA v) : nfA (a ++ u) = nfA (b ++ v) := (nf_app_left a h').trans (nf_app_right h v)

/-- how many bytes it is of, and how many it makes -/
def frA : List Atm → Nat
  | [] => 0
  | .p _ :: a => frA a
  | _ :: a => frA a + 1
def toA : List Atm → Nat
  | [] => 0
  | .d :: a => toA a
  | _ :: a => toA a + 1
theorem fr_ins : ∀ a, frA (insD a) = frA a + 1
  | [] => rfl
  | .k :: _ => rfl
  | .d :: _ => rfl
  | .p x :: a => by simp only [insD, frA]; rw [fr_ins a]
theorem to_ins : ∀ a, toA (insD a) = toA a
  | [] => rfl
  | .k :: _ => rfl
  | .d :: _ => rfl
  | .p x :: a => by simp only [insD, toA]; rw [to_ins a]
theorem fr_nf : ∀ a, frA (nfA a) = frA a
  | [] => rfl
  | .k :: a => by simp only [nfA, frA]; rw [fr_nf a]
  | .p x :: a => by simp only [nfA, frA]; rw [fr_nf a]
  | .d :: a => by simp only [nfA, frA]; rw [fr_ins, fr_nf a]
theorem to_nf : ∀ a, toA (nfA a) = toA a
  | [] => rfl
  | .k :: a => by simp only [nfA, toA]; rw [to_nf a]
  | .p x :: a => by simp only [nfA, toA]; rw [to_nf a]
  | .d :: a => by simp only [nfA, toA]; rw [to_ins, to_nf a]
theorem fr_app : ∀ a b, frA (a ++ b) = frA a + frA b
  | [], b => by simp [frA]
  | .k :: a, b => by simp only [List.cons_append, frA]; rw [fr_app a b]; omega
  | .p x :: a, b => by simp only [List.cons_append, frA]; rw [fr_app a b]
  | .d :: a, b => by simp only [List.cons_append, frA]; rw [fr_app a b]; omega
theorem to_app : ∀ a b, toA (a ++ b) = toA a + toA b
  | [], b => by simp [toA]
  | .k :: a, b => by simp only [List.cons_append, toA]; rw [to_app a b]; omega
  | .p x :: a, b => by simp only [List.cons_append, toA]; rw [to_app a b]; omega
  | .d :: a, b => by simp only [List.cons_append, toA]; rw [to_app a b]

/-- what is put alone -/
def putsA : List Atm → List Atm
  | [] => []
  | .p x :: b => .p x :: putsA b
  | _ :: b => putsA b
/-- one byte of the text between, that is kept (none) or put, then f -/
def thrA (f : List Atm → List Atm) (y : Option Int) : List Atm → List Atm
  | [] => f []
  | .p x :: b => .p x :: thrA f y b
  | .k :: b => (match y with | none => .k | some x => .p x) :: f b
  | .d :: b => match y with | none => .d :: f b | some _ => f b
/-- first one, then the other -/
def cmpA : List Atm → List Atm → List Atm
  | [] => putsA
  | .d :: a => fun b => .d :: cmpA a b
  | .k :: a => thrA (cmpA a) none
  | .p y :: a => thrA (cmpA a) (some y)
theorem thr_congr {f g : List Atm → List Atm} (h : ∀ v, nfA (f v) = nfA (g v)) (y : Option Int) : ∀ v, nfA (thrA f y v) = nfA (thrA g y v)
  | [] => h []
  | .p x :: b => by simp only [thrA, nfA]; rw [thr_congr h y b]
  | .k :: b => by cases y <;> simp only [thrA, nfA] <;> rw [h b]
  | .d :: b => by cases y <;> simp only [thrA, nfA] <;> rw [h b]
theorem cmp_ins : ∀ (s v : List Atm), nfA (cmpA (insD s) v) = insD (nfA (cmpA s v))
  | [], _ => rfl
  | .k :: _, _ => rfl
  | .d :: _, _ => rfl
  | .p y :: s, v => by
    simp only [insD, cmpA]
    induction v with
    | nil => simp only [thrA]; exact cmp_ins s []
    | cons c v ih =>
      cases c with
      | k => simp only [thrA, nfA]; rw [cmp_ins s v]; rfl
      | d => simp only [thrA]; exact cmp_ins s v
      | p x => simp only [thrA, nfA]; rw [ih]; rfl
theorem cmp_nf_left : ∀ (u v : List Atm), nfA (cmpA (nfA u) v) = nfA (cmpA u v)
  | [], _ => rfl
  | .k :: u, v => thr_congr (cmp_nf_left u) none v
  | .p x :: u, v => thr_congr (cmp_nf_left u) (some x) v
  | .d :: u, v => by simp only [nfA, cmpA]; rw [cmp_ins, cmp_nf_left u v]
theorem cmp_put : ∀ (u : List Atm) (x : Int) (s : List Atm), nfA (cmpA u (.p x :: s)) = .p x :: nfA (cmpA u s)
  | [], _, _ => rfl
  | .k :: _, _, _ => rfl
  | .p _ :: _, _, _ => rfl
  | .d :: u, x, s => by simp only [cmpA, nfA]; rw [cmp_put u x s]; rfl
theorem puts_ins : ∀ s, putsA (insD s) = putsA s
  | [] => rfl
  | .k :: _ => rfl
  | .d :: _ => rfl
  | .p x :: s => by simp only [insD, putsA]; rw [puts_ins s]
theorem puts_nf : ∀ s, putsA (nfA s) = putsA s
  | [] => rfl
  | .k :: s => by simp only [nfA, putsA]; exact puts_nf s
  | .p x :: s => by simp only [nfA, putsA]; rw [puts_nf s]
  | .d :: s => by simp only [nfA, putsA]; rw [puts_ins, puts_nf s]
theorem thr_ins {f : List Atm → List Atm} (hp : ∀ x s, nfA (f (.p x :: s)) = .p x :: nfA (f s)) (y : Option Int) : ∀ s, nfA (thrA f y (insD s)) = nfA (thrA f y (.d :: s))
  | [] => rfl
  | .k :: _ => rfl
  | .d :: _ => rfl
  | .p x :: s => by
    have ih := thr_ins hp y s
    cases y with
    | none => simp only [insD, thrA, nfA] at ih ⊢; rw [ih, hp]; rfl
    | some z => simp only [insD, thrA, nfA] at ih ⊢; rw [ih, hp]
theorem thr_nf {f : List Atm → List Atm} (hp : ∀ x s, nfA (f (.p x :: s)) = .p x :: nfA (f s)) (h : ∀ v, nfA (f (nfA v)) = nfA (f v)) (y : Option Int) : ∀ v, nfA (thrA f y (nfA v)) = nfA (thrA f y v)
  | [] => rfl
  | .p x :: v => by simp only [nfA, thrA]; rw [thr_nf hp h y v]
  | .k :: v => by cases y <;> simp only [nfA, thrA] <;> rw [h v]
  | .d :: v => by
    simp only [nfA]
    rw [thr_ins hp]
    cases y <;> simp only [thrA, nfA] <;> rw [h v]
theorem cmp_nf_right : ∀ (u v : List Atm), nfA (cmpA u (nfA v)) = nfA (cmpA u v)
  | [], v => by simp only [cmpA]; rw [puts_nf]
  | .d :: u, v => by simp only [cmpA, nfA]; rw [cmp_nf_right u v]
  | .k :: u, v => thr_nf (cmp_put u) (cmp_nf_right u) none v
  | .p x :: u, v => thr_nf (cmp_put u) (cmp_nf_right u) (some x) v
theorem cmp_congr {a b u v : List Atm} (h : nfA a = nfA b) (h' : nfA u = nfA v) : nfA (cmpA a u) = nfA (cmpA b v) := by
  rw [← cmp_nf_left a, h, cmp_nf_left, ← cmp_nf_right b u, h', cmp_nf_right]
/-- one behind the other is associative, where they fit -/
theorem cmp_assoc : ∀ (n : Nat) (a b c : List Atm), a.length + b.length + c.length ≤ n → toA a = frA b → toA b = frA c → cmpA (cmpA a b) c = cmpA a (cmpA b c)
  | n, .d :: a, b, c, hn, h1, h2 => by
    have ih := cmp_assoc (n - 1) a b c (by simp at hn; omega) h1 h2
    simp only [cmpA]; rw [ih]
  | n, [], .p x :: b, .p y :: c, hn, h1, h2 => by
    have ih := cmp_assoc (n - 1) [] (.p x :: b) c (by simp at hn ⊢; omega) h1 h2
    simp only [cmpA, putsA, thrA] at ih ⊢; rw [ih]
  | n, [], .p x :: b, .k :: c, hn, h1, h2 => by
    have ih := cmp_assoc (n - 1) [] b c (by simp at hn ⊢; omega) h1 (by simp only [toA, frA] at h2; omega)
    simp only [cmpA, putsA, thrA] at ih ⊢; rw [ih]
  | n, [], .p x :: b, .d :: c, hn, h1, h2 => by
    have ih := cmp_assoc (n - 1) [] b c (by simp at hn ⊢; omega) h1 (by simp only [toA, frA] at h2; omega)
    simp only [cmpA, putsA, thrA] at ih ⊢; rw [ih]
  | n, [], .p x :: b, [], hn, h1, h2 => by simp only [toA, frA] at h2; omega
  | n, [], [], c, hn, h1, h2 => by
    simp only [cmpA, putsA]
    clear hn h1
    induction c with
    | nil => rfl
    | cons x c ih => cases x <;> simp only [toA, frA, putsA] at h2 ih ⊢ <;> first | omega | (rw [← ih h2])
  | n, [], .k :: b, c, hn, h1, h2 => by simp only [toA, frA] at h1; omega
  | n, [], .d :: b, c, hn, h1, h2 => by simp only [toA, frA] at h1; omega
  | n, .k :: a, [], c, hn, h1, h2 => by simp only [toA, frA] at h1; omega
  | n, .p x :: a, [], c, hn, h1, h2 => by simp only [toA, frA] at h1; omega
  | n, .k :: a, .d :: b, c, hn, h1, h2 => by
    have ih := cmp_assoc (n - 1) a b c (by simp at hn; omega) (by simp only [toA, frA] at h1; omega) h2
    simp only [cmpA, thrA]; rw [ih]
  | n, .p x :: a, .d :: b, c, hn, h1, h2 => by
    have ih := cmp_assoc (n - 1) a b c (by simp at hn; omega) (by simp only [toA, frA] at h1; omega) h2
    simp only [cmpA, thrA]; rw [ih]
  | n, .k :: a, .k :: b, [], hn, h1, h2 => by simp only [toA, frA] at h2; omega
  | n, .p y :: a, .k :: b, [], hn, h1, h2 => by simp only [toA, frA] at h2; omega
  | n, .k :: a, .p x :: b, [], hn, h1, h2 => by simp only [toA, frA] at h2; omega
  | n, .p y :: a, .p x :: b, [], hn, h1, h2 => by simp only [toA, frA] at h2; omega
  | n, .k :: a, .k :: b, .p z :: c, hn, h1, h2 => by
    have ih := cmp_assoc (n - 1) (.k :: a) (.k :: b) c (by simp at hn ⊢; omega) h1 h2
    simp only [cmpA, thrA] at ih ⊢; rw [ih]
  | n, .p y :: a, .k :: b, .p z :: c, hn, h1, h2 => by
    have ih := cmp_assoc (n - 1) (.p y :: a) (.k :: b) c (by simp at hn ⊢; omega) h1 h2
    simp only [cmpA, thrA] at ih ⊢; rw [ih]
  | n, .k :: a, .p x :: b, .p z :: c, hn, h1, h2 => by
    have ih := cmp_assoc (n - 1) (.k :: a) (.p x :: b) c (by simp at hn ⊢; omega) h1 h2
    simp only [cmpA, thrA] at ih ⊢; rw [ih]
  | n, .p y :: a, .p x :: b, .p z :: c, hn, h1, h2 => by
    have ih := cmp_assoc (n - 1) (.p y :: a) (.p x :: b) c (by simp at hn ⊢; omega) h1 h2
    simp only [cmpA, thrA] at ih ⊢; rw [ih]
  | n, .k :: a, .k :: b, .k :: c, hn, h1, h2 => by
    have ih := cmp_assoc (n - 1) a b c (by simp at hn; omega) (by simp only [toA, frA] at h1; omega) (by simp only [toA, frA] at h2; omega)
    simp only [cmpA, thrA]; rw [ih]
  | n, .p y :: a, .k :: b, .k :: c, hn, h1, h2 => by
    have ih := cmp_assoc (n - 1) a b c (by simp at hn; omega) (by simp only [toA, frA] at h1; omega) (by simp only [toA, frA] at h2; omega)
    simp only [cmpA, thrA]; rw [ih]
  | n, .k :: a, .k :: b, .d :: c, hn, h1, h2 => by
    have ih := cmp_assoc (n - 1) a b c (by simp at hn; omega) (by simp only [toA, frA] at h1; omega) (by simp only [toA, frA] at h2; omega)
    simp only [cmpA, thrA]; rw [ih]
  | n, .p y :: a, .k :: b, .d :: c, hn, h1, h2 => by
    have ih := cmp_assoc (n - 1) a b c (by simp at hn; omega) (by simp only [toA, frA] at h1; omega) (by simp only [toA, frA] at h2; omega)
    simp only [cmpA, thrA]; rw [ih]
  | n, .k :: a, .p x :: b, .k :: c, hn, h1, h2 => by
    have ih := cmp_assoc (n - 1) (.k :: a) b c (by simp at hn ⊢; omega) h1 (by simp only [toA, frA] at h2; omega)
    simp only [cmpA, thrA] at ih ⊢; rw [ih]
  | n, .p y :: a, .p x :: b, .k :: c, hn, h1, h2 => by
    have ih := cmp_assoc (n - 1) (.p y :: a) b c (by simp at hn ⊢; omega) h1 (by simp only [toA, frA] at h2; omega)
    simp only [cmpA, thrA] at ih ⊢; rw [ih]
  | n, .k :: a, .p x :: b, .d :: c, hn, h1, h2 => by
    have ih := cmp_assoc (n - 1) (.k :: a) b c (by simp at hn ⊢; omega) h1 (by simp only [toA, frA] at h2; omega)
    simp only [cmpA, thrA] at ih ⊢; rw [ih]
  | n, .p y :: a, .p x :: b, .d :: c, hn, h1, h2 => by
    have ih := cmp_assoc (n - 1) (.p y :: a) b c (by simp at hn ⊢; omega) h1 (by simp only [toA, frA] at h2; omega)
    simp only [cmpA, thrA] at ih ⊢; rw [ih]
  termination_by _ a b c => a.length + b.length + c.length

theorem fr_cmp : ∀ (a b : List Atm), toA a = frA b → frA (cmpA a b) = frA a ∧ toA (cmpA a b) = toA b
  | [], b => by
    intro h
    simp only [cmpA]
    induction b with
    | nil => exact ⟨rfl, rfl⟩
    | cons x b ih => cases x <;> simp only [toA, frA, putsA] at h ih ⊢ <;> first | omega | (have := ih h; omega)
  | .d :: a, b => by
    intro h
    have ih := fr_cmp a b (by simpa [toA] using h)
    simp only [cmpA, frA, toA]; omega
  | .k :: a, b => by
    intro h
    induction b with
    | nil => simp only [toA, frA] at h; omega
    | cons x b ih =>
      cases x with
      | k => have := fr_cmp a b (by simp only [toA, frA] at h; omega); simp only [cmpA, thrA, frA, toA]; omega
      | d => have := fr_cmp a b (by simp only [toA, frA] at h; omega); simp only [cmpA, thrA, frA, toA]; omega
      | p y => have := ih (by simpa only [toA, frA] using h); simp only [cmpA, thrA, frA, toA] at this ⊢; omega
  | .p z :: a, b => by
    intro h
    induction b with
    | nil => simp only [toA, frA] at h; omega
    | cons x b ih =>
      cases x with
      | k => have := fr_cmp a b (by simp only [toA, frA] at h; omega); simp only [cmpA, thrA, frA, toA]; omega
      | d => have := fr_cmp a b (by simp only [toA, frA] at h; omega); simp only [cmpA, thrA, frA, toA]; omega
      | p y => have := ih (by simpa only [toA, frA] using h); simp only [cmpA, thrA, frA, toA] at this ⊢; omega

/-- what becomes of bytes -/
def appA : List Int → List Atm → List Int
  | _, [] => []
  | xs, .k :: a => xs.take 1 ++ appA (xs.drop 1) a
  | xs, .d :: a => appA (xs.drop 1) a
  | xs, .p y :: a => y :: appA xs a
theorem app_ins : ∀ (s : List Atm) (xs : List Int), appA xs (insD s) = appA (xs.drop 1) s
  | [], _ => rfl
  | .k :: _, _ => rfl
  | .d :: _, _ => rfl
  | .p y :: s, xs => by simp only [insD, appA]; rw [app_ins s xs]
theorem app_nf : ∀ (a : List Atm) (xs : List Int), appA xs (nfA a) = appA xs a
  | [], _ => rfl
  | .k :: a, xs => by simp only [nfA, appA]; rw [app_nf a]
  | .p y :: a, xs => by simp only [nfA, appA]; rw [app_nf a]
  | .d :: a, xs => by simp only [nfA, appA]; rw [app_ins, app_nf a]
theorem app_congr {a b : List Atm} (h : nfA a = nfA b) (xs : List Int) : appA xs a = appA xs b := by rw [← app_nf a, h, app_nf]
theorem app_len : ∀ (a : List Atm) (xs : List Int), xs.length = frA a → (appA xs a).length = toA a
  | [], _, _ => rfl
  | .k :: a, [], h => by simp [frA] at h
  | .k :: a, x :: xs, h => by simp only [frA, List.length_cons] at h; simp only [appA, toA, List.take_succ_cons, List.take_zero, List.drop_succ_cons, List.drop_zero, List.length_append, List.length_cons, List.length_nil]; rw [app_len a xs (by omega)]; omega
  | .d :: a, [], h => by simp [frA] at h
  | .d :: a, x :: xs, h => by simp only [frA, List.length_cons] at h; simp only [appA, toA, List.drop_succ_cons, List.drop_zero]; exact app_len a xs (by omega)
  | .p y :: a, xs, h => by simp only [frA] at h; simp only [appA, toA, List.length_cons]; rw [app_len a xs h]
/-- one behind the other is what both together do -/
theorem app_cmp : ∀ (a b : List Atm) (xs : List Int), xs.length = frA a → toA a = frA b → appA xs (cmpA a b) = appA (appA xs a) b
  | [], b, xs, _, h => by
    simp only [cmpA, appA]
    induction b with
    | nil => rfl
    | cons x b ih => cases x <;> simp only [toA, frA, putsA, appA] at h ih ⊢ <;> first | omega | (rw [ih h])
  | .d :: a, b, [], h1, _ => by simp [frA] at h1
  | .d :: a, b, x :: xs, h1, h => by
    have ih := app_cmp a b xs (by simp only [frA, List.length_cons] at h1; omega) (by simpa [toA] using h)
    simp only [cmpA, appA, List.drop_succ_cons, List.drop_zero]; exact ih
  | .k :: a, b, [], h1, _ => by simp [frA] at h1
  | .k :: a, b, x :: xs, h1, h => by
    have hx : xs.length = frA a := by simp only [frA, List.length_cons] at h1; omega
    simp only [cmpA]
    induction b with
    | nil => simp only [toA, frA] at h; omega
    | cons c b ih =>
      cases c with
      | k => have := app_cmp a b xs hx (by simp only [toA, frA] at h; omega); simp only [thrA, appA, List.take_succ_cons, List.take_zero, List.drop_succ_cons, List.drop_zero, List.cons_append, List.nil_append]; rw [this]
      | d => have := app_cmp a b xs hx (by simp only [toA, frA] at h; omega); simp only [thrA, appA, List.take_succ_cons, List.take_zero, List.drop_succ_cons, List.drop_zero, List.cons_append, List.nil_append]; rw [this]
      | p y => have := ih (by simpa only [toA, frA] using h); simp only [thrA, appA] at this ⊢; rw [this]
  | .p z :: a, b, xs, h1, h => by
    have hx : xs.length = frA a := by simpa only [frA] using h1
    simp only [cmpA]
    induction b with
    | nil => simp only [toA, frA] at h; omega
    | cons c b ih =>
      cases c with
      | k => have := app_cmp a b xs hx (by simp only [toA, frA] at h; omega); simp only [thrA, appA, List.take_succ_cons, List.take_zero, List.drop_succ_cons, List.drop_zero, List.cons_append, List.nil_append]; rw [this]
      | d => have := app_cmp a b xs hx (by simp only [toA, frA] at h; omega); simp only [thrA, appA, List.drop_succ_cons, List.drop_zero]; rw [this]
      | p y => have := ih (by simpa only [toA, frA] using h); simp only [thrA, appA] at this ⊢; rw [this]

/-- what takes it back -/
def invA : List Int → List Atm → List Atm
  | _, [] => []
  | xs, .k :: a => .k :: invA (xs.drop 1) a
  | xs, .d :: a => .p (xs.headD 0) :: invA (xs.drop 1) a
  | xs, .p _ :: a => .d :: invA xs a
theorem inv_ins : ∀ (s : List Atm) (xs : List Int), nfA (invA xs (insD s)) = nfA (invA xs (.d :: s))
  | [], _ => rfl
  | .k :: _, _ => rfl
  | .d :: _, _ => rfl
  | .p y :: s, xs => by
    have := inv_ins s xs
    simp only [insD, invA, nfA] at this ⊢; rw [this]; rfl
theorem inv_nf : ∀ (a : List Atm) (xs : List Int), nfA (invA xs (nfA a)) = nfA (invA xs a)
  | [], _ => rfl
  | .k :: a, xs => by simp only [nfA, invA]; rw [inv_nf a]
  | .p y :: a, xs => by simp only [nfA, invA]; rw [inv_nf a]
  | .d :: a, xs => by simp only [nfA]; rw [inv_ins]; simp only [invA, nfA]; rw [inv_nf a]
theorem inv_congr {a b : List Atm} (h : nfA a = nfA b) (xs : List Int) : nfA (invA xs a) = nfA (invA xs b) := by rw [← inv_nf a, h, inv_nf]
theorem inv_fr : ∀ (a : List Atm) (xs : List Int), frA (invA xs a) = toA a ∧ toA (invA xs a) = frA a
  | [], _ => ⟨rfl, rfl⟩
  | .k :: a, xs => by have := inv_fr a (xs.drop 1); simp only [invA, frA, toA]; omega
  | .d :: a, xs => by have := inv_fr a (xs.drop 1); simp only [invA, frA, toA]; omega
  | .p y :: a, xs => by have := inv_fr a xs; simp only [invA, frA, toA]; omega
theorem app_inv : ∀ (a : List Atm) (xs : List Int), xs.length = frA a → appA (appA xs a) (invA xs a) = xs
  | [], [], _ => rfl
  | [], x :: xs, h => by simp [frA] at h
  | .k :: a, [], h => by simp [frA] at h
  | .k :: a, x :: xs, h => by
    have := app_inv a xs (by simp only [frA, List.length_cons] at h; omega)
    simp only [appA, invA, List.take_succ_cons, List.take_zero, List.drop_succ_cons, List.drop_zero, List.cons_append, List.nil_append]; rw [this]
  | .d :: a, [], h => by simp [frA] at h
  | .d :: a, x :: xs, h => by
    have := app_inv a xs (by simp only [frA, List.length_cons] at h; omega)
    simp only [appA, invA, List.headD_cons, List.drop_succ_cons, List.drop_zero]; rw [this]
  | .p y :: a, xs, h => by
    have := app_inv a xs (by simpa only [frA] using h)
    simp only [appA, invA, List.drop_succ_cons, List.drop_zero]; exact this
theorem inv_inv : ∀ (a : List Atm) (xs : List Int), xs.length = frA a → invA (appA xs a) (invA xs a) = a
  | [], xs, _ => rfl
  | .k :: a, [], h => by simp [frA] at h
  | .k :: a, x :: xs, h => by
    have := inv_inv a xs (by simp only [frA, List.length_cons] at h; omega)
    simp only [appA, invA, List.take_succ_cons, List.take_zero, List.drop_succ_cons, List.drop_zero, List.cons_append, List.nil_append]; rw [this]
  | .d :: a, [], h => by simp [frA] at h
  | .d :: a, x :: xs, h => by
    have := inv_inv a xs (by simp only [frA, List.length_cons] at h; omega)
    simp only [appA, invA, List.headD_cons, List.drop_succ_cons, List.drop_zero]; rw [this]
  | .p y :: a, xs, h => by
    have := inv_inv a xs (by simpa only [frA] using h)
    simp only [appA, invA, List.headD_cons, List.drop_succ_cons, List.drop_zero]; rw [this]
/-- a delta and what takes it back: what is kept, and in the place of what is dropped the same bytes again -/
def bakA : List Int → List Atm → List Atm
  | _, [] => []
  | xs, .k :: a => .k :: bakA (xs.drop 1) a
  | xs, .d :: a => .d :: .p (xs.headD 0) :: bakA (xs.drop 1) a
  | xs, .p _ :: a => bakA xs a
theorem cmp_inv : ∀ (a : List Atm) (xs : List Int), cmpA a (invA xs a) = bakA xs a ∨ nfA (cmpA a (invA xs a)) = nfA (bakA xs a)
  | [], _ => .inl rfl
  | .k :: a, xs => .inr (by
    have : nfA (cmpA a (invA (xs.drop 1) a)) = nfA (bakA (xs.drop 1) a) := by rcases cmp_inv a (xs.drop 1) with h | h; rw [h]; exact h
    simp only [invA, cmpA, thrA, bakA, nfA]; rw [this])
  | .d :: a, xs => .inr (by
    have : nfA (cmpA a (invA (xs.drop 1) a)) = nfA (bakA (xs.drop 1) a) := by rcases cmp_inv a (xs.drop 1) with h | h; rw [h]; exact h
    simp only [invA, cmpA, bakA, nfA]; rw [cmp_put, this])
  | .p y :: a, xs => .inr (by
    have : nfA (cmpA a (invA xs a)) = nfA (bakA xs a) := by rcases cmp_inv a xs with h | h; rw [h]; exact h
    simp only [invA, cmpA, thrA, bakA]; exact this)

end Go.Proofs.YtkdnanlgkedjgabDoor
