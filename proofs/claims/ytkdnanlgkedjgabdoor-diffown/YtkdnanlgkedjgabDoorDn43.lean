/- Layer 13: Changes. · Layer 19, plain: what a delta costs, by its changes and by its operations. · Layer 19: numbered: pieces' numbers, the same just for the same bytes. · Layer 19: a loop over step.All whose body makes and writes blocks of its own; stepCuts and steps. · Layer 19: lineCuts. -/
import Derived.Test.YtkdnanlgkedjgabDoorDn42
import Derived.Test.YtkdnanlgkedjgabDoorDn34
import Derived.Test.YtkdnanlgkedjgabDoorDn21
import Derived.Test.YtkdnanlgkedjgabDoorDn27
import Derived.Deep.AppendSrc
import Derived.Deep.AppendLies
import Derived.OwnWalkIn
import Derived.Test.YtkdnanlgkedjgabDoorDn23
import Derived.Test.YtkdnanlgkedjgabDoorDn22

section
namespace Go.Proofs.YtkdnanlgkedjgabDoor
open Go.ChangeShapes Go.WideShapes Go.ChangeAt Go.RowKit
attribute [local go_sem] Oper.semAt_some

theorem upL_len (f : Dop → Dop) (l : List Dop) : (upL f l).length = l.length := by
  by_cases h : l = []
  · subst h; rfl
  · obtain ⟨e, x, rfl⟩ := list_snoc h; rw [upL_snoc]; simp
theorem her_len (m : Nat) (cs : List Dop) : (herL m cs).length ≤ cs.length + 1 := by unfold herL; split <;> simp
theorem stL_len (s : Nat × List Dop) (o : Dop) : (stL s o).2.length ≤ s.2.length + 1 := by
  unfold stL
  split
  · simp
  · split
    · simp only [upL_len]; exact her_len _ _
    · simp only [upL_len]; exact her_len _ _
theorem runL_len (d : List Dop) : ∀ k, k ≤ d.length → (runL (d.take k)).2.length ≤ k
  | 0, _ => by simp [runL]
  | k + 1, hk => by
    rw [runL_take d (by omega)]
    have := stL_len (runL (d.take k)) (d.getD k opZ)
    have := runL_len d k (by omega)
    omega
theorem runL_at {d : List Dop} (hv : valB d = true) : ∀ k, k ≤ d.length → (runL (d.take k)).1 = frD (d.take k)
  | 0, _ => by simp [runL, frD]
  | k + 1, hk => by
    rw [runL_take d (by omega), frD_take d (by omega), ← runL_at hv k (by omega)]
    have hx := valB_op hv (getD_memD (d := d) (k := k) (by omega))
    generalize d.getD k opZ = x at *
    unfold stL frN
    rcases hx with ⟨h1 | h1, _, _⟩ | ⟨h1, _, _⟩ <;> simp [h1]
theorem val_len {d : List Dop} (hv : valB d = true) : d.length ≤ 536870912 := by
  have h1 := can_len (d := d) (fun o ho => by
    rcases valB_op hv ho with ⟨h1, h2, h3⟩ | ⟨h1, h2, h3⟩
    · exact .inl ⟨h1, h2, h3⟩
    · exact .inr ⟨h1, h2, h3⟩)
  have h2 := dA_len (valB_k hv)
  have h3 := (valB_nn hv).2
  omega
set_option maxRecDepth 100000 in
theorem each_l (a : Option Addr) (c B g : Nat) (d : List Dop) (X : World) (hO : ∀ Y, Below B X Y → IsO Y a d) (v : Value) (hX : IsLv B X X g 0 v []) (hl : d.length ≤ 4611686018427387904) (hv : valB d = true) :
    Calls Tryd.prog 18 #[.slice a d.length c, .func (.func 36) #[.pointer (some ⟨g, 0, none⟩)] #[], .func (.func 37) #[.pointer (some ⟨g, 0, none⟩)] #[], .func (.func 38) #[.pointer (some ⟨g, 0, none⟩)] #[]] X
      fun y X' => y = .returned (.tuple #[]) ∧ ∃ v', IsLv B X X' g (runL d).1 v' (runL d).2 := by
  have hz := (valB_nn hv).2
  have hdl := val_len hv
  have := each_at a c B d X 36 37 38 (.pointer (some ⟨g, 0, none⟩))
    (fun k Y => ∃ v', IsLv B X Y g (runL (d.take k)).1 v' (runL (d.take k)).2)
    (enters_of Tryd.func36 (by kernel_rfl) rfl) (enters_of Tryd.func37 (by kernel_rfl) rfl) (enters_of Tryd.func38 (by kernel_rfl) rfl)
    hO (fun k Y ⟨_, hY⟩ => hY.d) (fun k Y o ⟨v', hY⟩ => ⟨v', hY.on ((Below.refl _ _).alloc (Nat.le_refl _) o)⟩) ⟨v, hX⟩ hl
    (fun k Y hlt h1 ⟨v', hY⟩ => by
      have hx := valB_op hv (getD_memD hlt)
      have e0 := runL_at hv k (by omega)
      have e1 := frD_take d hlt
      have e3 := frD_le d (k + 1)
      rw [runL_take d hlt]
      generalize runL (d.take k) = s at *
      generalize d.getD k opZ = x at *
      obtain ⟨xk, xn, xt⟩ := x
      dsimp only at hx h1
      subst h1
      rcases hx with ⟨_, hn, rfl⟩ | ⟨h2, _⟩
      · obtain ⟨m, rfl⟩ : ∃ m : Nat, xn = (m : Int) := ⟨xn.toNat, by omega⟩
        simp [frN] at e1
        refine (lkeep_at B X Y g s.1 m v' s.2 hY (by omega)).mono fun y Z ⟨e, hZ⟩ => ⟨e, v', ?_⟩
        simp only [stL, if_true, Int.toNat_natCast]
        exact hZ
      · omega)
    (fun k Y hlt h1 ⟨v', hY⟩ => by
      have hln := runL_len d k (by omega)
      have hx := valB_op hv (getD_memD hlt)
      rw [runL_take d hlt]
      generalize runL (d.take k) = s at *
      generalize d.getD k opZ = x at *
      obtain ⟨xk, xn, xt⟩ := x
      dsimp only at hx h1
      subst h1
      refine (lput_at B X Y g s.1 v' s.2 xt hY (by omega)).mono fun y Z ⟨e, v2, hZ⟩ => ⟨e, v2, ?_⟩
      simp only [stL, show ¬ ((2 : Int) = 1) by decide, if_false, if_true]
      exact hZ)
    (fun k Y hlt h1 ⟨v', hY⟩ => by
      have hln := runL_len d k (by omega)
      have hx := valB_op hv (getD_memD hlt)
      have e0 := runL_at hv k (by omega)
      have e1 := frD_take d hlt
      have e3 := frD_le d (k + 1)
      rw [runL_take d hlt]
      generalize runL (d.take k) = s at *
      generalize d.getD k opZ = x at *
      obtain ⟨xk, xn, xt⟩ := x
      dsimp only at hx h1
      subst h1
      rcases hx with ⟨_, hn, rfl⟩ | ⟨h2, _⟩
      · obtain ⟨m, rfl⟩ : ∃ m : Nat, xn = (m : Int) := ⟨xn.toNat, by omega⟩
        simp [frN] at e1
        refine (ldrop_at B X Y g s.1 m v' s.2 hY (by omega) (by omega)).mono fun y Z ⟨e, v2, hZ⟩ => ⟨e, v2, ?_⟩
        simp only [stL, show ¬ ((3 : Int) = 1) by decide, show ¬ ((3 : Int) = 2) by decide, if_false, Int.toNat_natCast]
        exact hZ
      · omega)
    (fun k Y hlt h1 h2 h3 _ => by rcases valB_k hv _ (getD_memD hlt) with h | h | h <;> contradiction)
  rw [List.take_length] at this
  exact this
/-- what Changes answers -/
def chD (d : List Dop) : List Dop × Int := if valB d then ((runL d).2, 0) else ([], 130)
set_option maxRecDepth 100000 in
set_option maxHeartbeats 1000000 in
theorem Changes_at (a : Option Addr) (c : Nat) (d : List Dop) (w : World) (h : IsO w a d) (hl : d.length ≤ 4611686018427387904) :
    Calls Tryd.prog 23 #[.slice a d.length c] w fun y w' => ∃ v, y = .returned (.tuple #[v, .int .i64 (chD d).2]) ∧ w'.ownsRow w.heap.size 57 3 v (chD d).1.length (opsV (chD d).1) ∧ Below w.heap.size w w' := by
  have HV := hide (Valid_atD a c d w h hl)
  cases hv : valB d with
  | false =>
    rw [hv] at HV
    unfold chD
    rw [hv]
    simp only [Bool.false_eq_true, if_false]
    clear hv h hl
    go_enter Tryd.func23, Tryd.ntmps23
    go_wp2_with fail
    refine (unhide HV).mono ?_
    rintro y w1 ⟨rfl, x1⟩
    dsimp only
    clear HV
    go_wp2_with fail
    refine bodyPost_ret (results_tmp2 rfl _ _ _) rfl ⟨.slice none 0 0, rfl, World.ownsRow_nil _ _ _ _, x1⟩
  | true =>
    rw [hv] at HV
    unfold chD
    rw [hv]
    simp only [if_true]
    go_enter Tryd.func23, Tryd.ntmps23
    go_wp2_with fail
    refine (unhide HV).mono ?_
    rintro y w1 ⟨rfl, x1⟩
    dsimp only
    have hW : IsLv w.heap.size (w1.alloc (.cells #[.int .i64 0, .slice none 0 0] 74)) (w1.alloc (.cells #[.int .i64 0, .slice none 0 0] 74)) w1.heap.size 0 (.slice none 0 0) [] :=
      ⟨Cls.new _ _ _, World.ownsRow_nil _ _ _ _, Below.refl _ _, x1.size, by have := x1.size; simp; omega⟩
    have HE := hide (each_l a c w.heap.size w1.heap.size d _ (fun Y hY => h.below ((x1.alloc x1.size _).trans hY) (Nat.le_refl _)) _ hW hl hv)
    have HX := hide (x1.alloc x1.size (.cells #[.int .i64 0, .slice none 0 0] 74))
    clear HV hW h hl hv x1
    go_upto_region 4 with fail
    generalize w1.alloc (.cells #[.int .i64 0, .slice none 0 0] 74) = w4 at *
    generalize w1.heap.size = g at *
    go_wp2_with fail
    refine (unhide HE).mono ?_
    rintro y w5 ⟨rfl, v5, h5⟩
    dsimp only
    have e1 : w5.cell? ⟨g, 1, none⟩ = some v5 := h5.a.cell 1
    have HOw := hide h5.r
    have HXX := hide ((unhide HX).trans h5.d)
    clear HE h5 HX
    go_wp2_with fail
    refine bodyPost_ret (results_tmp2 rfl _ _ _) rfl ⟨_, rfl, unhide HOw, unhide HXX⟩

end Go.Proofs.YtkdnanlgkedjgabDoor
end

section
namespace Go.Proofs.YtkdnanlgkedjgabDoor

/-- a part of a text -/
def subL (l : List Int) (a b : Nat) : List Int := (l.drop a).take (b - a)
theorem subL_no (l : List Int) (a : Nat) : subL l a a = [] := by simp [subL]
section
variable (E : Nat → Prop) (S : List Int → Nat) (l : List Int)
def okP (cs : List Dop) : Prop := ∀ c ∈ cs, E c.k.toNat ∧ E c.n.toNat
def sumP (cs : List Dop) : Nat := (cs.map fun c => S (subL l c.k.toNat c.n.toNat) + S c.t).sum
def okRf : Nat → List Dop → Prop
  | _, [] => True
  | m, o :: r => if o.k = 2 then okRf m r else E (m + o.n.toNat) ∧ okRf (m + o.n.toNat) r
def sumRf : Nat → List Dop → Nat
  | _, [] => 0
  | m, o :: r => if o.k = 2 then S o.t + sumRf m r else (if o.k = 3 then S (subL l m (m + o.n.toNat)) else 0) + sumRf (m + o.n.toNat) r
end
variable {E : Nat → Prop} {S : List Int → Nat} {l : List Int}
/-- what is known ahead of an operation -/
def Sta (q : Int) (m : Nat) (cs : List Dop) : Prop :=
  (q = 7 ∧ m = 0 ∧ cs = []) ∨ (q = 6 ∧ ∀ x, cs.getLast? = some x → x.n < (m : Int)) ∨ (q = 5 ∧ ∃ e t, cs = e ++ [⟨m, m, t⟩]) ∨ (q = 1 ∧ ∃ e x, cs = e ++ [x] ∧ x.n = (m : Int))
theorem okP_app (a b : List Dop) : okP E (a ++ b) ↔ okP E a ∧ okP E b := by
  unfold okP
  constructor
  · intro h; exact ⟨fun c hc => h c (by simp [hc]), fun c hc => h c (by simp [hc])⟩
  · rintro ⟨h1, h2⟩ c hc
    rcases List.mem_append.1 hc with hc | hc
    · exact h1 c hc
    · exact h2 c hc
theorem okP_one (c : Dop) : okP E [c] ↔ E c.k.toNat ∧ E c.n.toNat := by unfold okP; simp
theorem sumP_app (a b : List Dop) : sumP S l (a ++ b) = sumP S l a + sumP S l b := by simp [sumP]
theorem sumP_one (c : Dop) : sumP S l [c] = S (subL l c.k.toNat c.n.toNat) + S c.t := by simp [sumP]
theorem her_new {m : Nat} {cs : List Dop} (h : ∀ x, cs.getLast? = some x → x.n ≠ (m : Int)) : herL m cs = cs ++ [⟨m, m, []⟩] := by
  unfold herL
  rw [if_neg]
  intro e
  cases hc : cs.getLast? with
  | none => rw [hc] at e; cases e
  | some x => rw [hc] at e; exact h x hc (by simpa using e)
theorem her_on {m : Nat} {e : List Dop} {x : Dop} (h : x.n = (m : Int)) : herL m (e ++ [x]) = e ++ [x] := by
  unfold herL
  rw [if_pos (by simp [h])]
theorem cost_both (h0 : S [] = 0) (hE : E 0) : ∀ (d : List Dop) (q : Int) (m : Nat) (cs : List Dop), Sta q m cs → apL q d = true → (∀ o ∈ d, ((o.k = 1 ∨ o.k = 3) ∧ 1 ≤ o.n) ∨ o.k = 2) →
    ((okP E cs ∧ E m ∧ okRf E m d) ↔ (okP E (d.foldl stL (m, cs)).2 ∧ E (d.foldl stL (m, cs)).1)) ∧ sumP S l (d.foldl stL (m, cs)).2 = sumP S l cs + sumRf S l m d
  | [], q, m, cs, _, _, _ => by simp [okRf, sumRf]
  | o :: r, q, m, cs, hs, ha, hp => by
    have ho := hp o (by simp)
    have hr : ∀ o ∈ r, ((o.k = 1 ∨ o.k = 3) ∧ 1 ≤ o.n) ∨ o.k = 2 := fun x hx => hp x (by simp [hx])
    rw [apL, Bool.and_eq_true] at ha
    obtain ⟨ha1, ha2⟩ := ha
    obtain ⟨k, n, t⟩ := o
    dsimp only at ho ha1 ha2
    rw [List.foldl_cons]
    rcases ho with ⟨rfl | rfl, hn⟩ | rfl
    · -- keep
      obtain ⟨n, rfl⟩ := Int.eq_ofNat_of_zero_le (show 0 ≤ n by omega)
      have e : stL (m, cs) ⟨1, (n : Int), t⟩ = (m + n, cs) := by simp [stL]
      have hs' : Sta (nextN 1) (m + n) cs := by
        refine .inr (.inl ⟨by simp [nextN], fun x hx => ?_⟩)
        rcases hs with ⟨_, _, rfl⟩ | ⟨rfl, _⟩ | ⟨_, e', t', rfl⟩ | ⟨_, e', x', rfl, hx'⟩
        · cases hx
        · simp [apB, thisN] at ha1
        · simp at hx; subst hx; dsimp only; omega
        · simp at hx; subst hx; rw [hx']; omega
      have hm : okP E cs → E m := by
        intro h
        rcases hs with ⟨_, rfl, _⟩ | ⟨rfl, _⟩ | ⟨_, e', t', rfl⟩ | ⟨_, e', x', rfl, hx'⟩
        · exact hE
        · simp [apB, thisN] at ha1
        · have := ((okP_one _).1 ((okP_app _ _).1 h).2).2; simpa using this
        · have := ((okP_one _).1 ((okP_app _ _).1 h).2).2; rw [hx'] at this; simpa using this
      obtain ⟨i1, i2⟩ := cost_both h0 hE r _ (m + n) cs hs' ha2 hr
      rw [e, ← i1, i2]
      refine ⟨?_, by simp [sumRf]⟩
      simp only [okRf, show ¬ (1 : Int) = 2 by decide, if_false, Int.toNat_natCast]
      constructor
      · rintro ⟨h1, _, h3, h4⟩; exact ⟨h1, h3, h4⟩
      · rintro ⟨h1, h3, h4⟩; exact ⟨h1, hm h1, h3, h4⟩
    · -- drop
      obtain ⟨n, rfl⟩ := Int.eq_ofNat_of_zero_le (show 0 ≤ n by omega)
      obtain ⟨e', x', he, hk, hx, hx2, hsum⟩ : ∃ e' x', stL (m, cs) ⟨3, (n : Int), t⟩ = (m + n, e' ++ [⟨(m : Int), (m : Int) + n, x'⟩]) ∧ ((okP E cs ∧ E m) ↔ okP E e' ∧ E m) ∧ True ∧ True ∧ sumP S l cs = sumP S l e' + S x' := by
        rcases hs with ⟨_, rfl, rfl⟩ | ⟨_, hx⟩ | ⟨_, e', t', rfl⟩ | ⟨rfl, _⟩
        · refine ⟨[], [], by simp [stL, herL, upL], by simp, trivial, trivial, by simp [h0]⟩
        · refine ⟨cs, [], ?_, by simp, trivial, trivial, by simp [h0]⟩
          have := her_new (m := m) (cs := cs) fun x g => by have := hx x g; omega
          simp [stL, this, upL_snoc]
        · refine ⟨e', t', ?_, ?_, trivial, trivial, ?_⟩
          · have := her_on (m := m) (e := e') (x := ⟨m, m, t'⟩) rfl
            simp [stL, this, upL_snoc]
          · rw [okP_app, okP_one]; simp
          · rw [sumP_app, sumP_one]; simp [subL_no, h0]
        · simp [apB, thisN] at ha1
      obtain ⟨i1, i2⟩ := cost_both h0 hE r _ (m + n) (e' ++ [⟨(m : Int), (m : Int) + n, x'⟩]) (.inr (.inr (.inr ⟨by simp [nextN], e', _, rfl, by simp⟩))) ha2 hr
      rw [he, ← i1, i2, hsum]
      have et : ((m : Int) + n).toNat = m + n := by omega
      refine ⟨?_, by rw [sumP_app, sumP_one]; simp [sumRf, et]; omega⟩
      simp only [okRf, show ¬ (3 : Int) = 2 by decide, if_false, Int.toNat_natCast, okP_app, okP_one, et]
      constructor
      · rintro ⟨h1, h2, h3, h4⟩
        have := hk.1 ⟨h1, h2⟩
        exact ⟨⟨this.1, h2, h3⟩, h3, h4⟩
      · rintro ⟨⟨h1, h2, h3⟩, _, h4⟩
        have := hk.2 ⟨h1, h2⟩
        exact ⟨this.1, h2, h3, h4⟩
    · -- put
      have hx : ∀ x, cs.getLast? = some x → x.n ≠ (m : Int) := by
        rcases hs with ⟨_, rfl, rfl⟩ | ⟨_, hx⟩ | ⟨rfl, _⟩ | ⟨rfl, _⟩
        · intro x h; cases h
        · intro x h; have := hx x h; omega
        · simp [apB, thisN] at ha1
        · simp [apB, thisN] at ha1
      have he : stL (m, cs) ⟨2, n, t⟩ = (m, cs ++ [⟨(m : Int), (m : Int), t⟩]) := by
        simp [stL, her_new hx, upL_snoc]
      obtain ⟨i1, i2⟩ := cost_both h0 hE r _ m (cs ++ [⟨(m : Int), (m : Int), t⟩]) (.inr (.inr (.inl ⟨by simp [nextN], cs, t, rfl⟩))) ha2 hr
      rw [he, ← i1, i2]
      refine ⟨?_, by rw [sumP_app, sumP_one]; simp [sumRf, subL_no, h0]; omega⟩
      simp only [okRf, if_true, okP_app, okP_one, Int.toNat_natCast]
      constructor
      · rintro ⟨h1, h2, h3⟩; exact ⟨⟨h1, h2, h2⟩, h2, h3⟩
      · rintro ⟨⟨h1, _⟩, h2, h3⟩; exact ⟨h1, h2, h3⟩
/-- the changes of a valid delta cost what its operations cost, and cut a step just where these do -/
theorem cost_is (h0 : S [] = 0) (hE : E 0) {d : List Dop} (hv : valB d = true) (hn : E (frD d)) : (okRf E 0 d ↔ okP E (runL d).2) ∧ sumP S l (runL d).2 = sumRf S l 0 d := by
  have ha : apL 7 d = true := by
    unfold valB at hv
    simp only [Bool.and_eq_true] at hv
    exact hv.2.1
  have h := cost_both (E := E) (S := S) (l := l) h0 hE d 7 0 [] (.inl ⟨rfl, rfl, rfl⟩) ha (fun o ho => by
    rcases valB_op hv ho with ⟨h1, h2, _⟩ | ⟨h1, _, _⟩
    · exact .inl ⟨h1, h2⟩
    · exact .inr h1)
  have hr : (runL d).1 = frD d := by have := runL_at hv d.length (Nat.le_refl _); rwa [List.take_length] at this
  unfold runL at hr ⊢
  rw [hr] at h
  refine ⟨⟨fun g => (h.1.1 ⟨by simp [okP], hE, g⟩).1, fun g => (h.1.2 ⟨g, hn⟩).2.2⟩, by rw [h.2]; simp [sumP]⟩
end Go.Proofs.YtkdnanlgkedjgabDoor
end

section
namespace Go.Proofs.YtkdnanlgkedjgabDoor
open Go.ChangeShapes Go.WideShapes Go.ChangeAt Go.RowKit
attribute [local go_sem] Oper.semAt_some

theorem KpF.dN {F : Nat → Prop} {X Y : World} (h : KpF F X Y) : ∀ n, KpF F X (Y.drewN n)
  | 0 => h
  | n + 1 => by have i := h.dN n; exact ⟨i.os, i.tape, i.output, i.size, i.block⟩
theorem drewN_heap (X : World) : ∀ n, (X.drewN n).heap = X.heap
  | 0 => rfl
  | n + 1 => drewN_heap X n
theorem IsKn.dN {X : World} {r : Nat} {K : List (List Int)} (h : IsKn X r K) (n : Nat) : IsKn (X.drewN n) r K := h.same (by rw [drewN_heap])
theorem RA.dN {X : World} {s n : Nat} {v : Value} {xs : List Value} {k : Option Nat} (h : RA X s v n xs k) (m : Nat) : RA (X.drewN m) s v n xs k := h.same (by rw [drewN_heap]; exact Nat.le_refl _) fun g _ _ => by rw [drewN_heap]
set_option maxRecDepth 100000 in
theorem zero_int (X : World) : (zeroValue 3).run Tryd.prog X = .ok (.int .i64 0) X := by rfl
/-- the map is asked, and its size -/
theorem kn_ask {X : World} {r : Nat} {K : List (List Int)} (h : IsKn X r K) {p : List Int} (hp : ByL p) :
    (p ∈ K ∧ (Instr.lookup 81 (.map (some r)) (.string (strOfNums p)) true).run Tryd.prog X = .ok (.tuple #[.int .i64 ((K.idxOf p : Nat) : Int), .bool true]) X) ∨
    (¬ p ∈ K ∧ (Instr.lookup 81 (.map (some r)) (.string (strOfNums p)) true).run Tryd.prog X = .ok (.tuple #[.int .i64 0, .bool false]) X) := by
  have R := run_lookup_mi (P := Tryd.prog) X Tryd.underlying81 Tryd.underlying9 (zero_int X) h.1 (strOfNums p)
  rw [h.get hp] at R
  by_cases g : p ∈ K
  · rw [if_pos g] at R; exact .inl ⟨g, R⟩
  · rw [if_neg g] at R; exact .inr ⟨g, R⟩
theorem kn_size {X : World} {r : Nat} {K : List (List Int)} (h : IsKn X r K) : (Builtin.len_ #[81] 3 #[.map (some r)]).run Tryd.prog X = .ok (.int .i64 (K.length : Int)) X := by
  obtain ⟨es, clock, h1, h2⟩ := h.len
  unfold Builtin.len_
  simp [run_underlying Tryd.underlying81, MapKept.run_getObj_map h1, Result.andThen, h2, goInt]
theorem kno_in {K ps : List (List Int)} {p : List Int} (h : p ∈ knoP K ps) : knoP K (ps ++ [p]) = knoP K ps := by rw [knoP_app]; simp [knoP, h]
theorem kno_new {K ps : List (List Int)} {p : List Int} (h : ¬ p ∈ knoP K ps) : knoP K (ps ++ [p]) = knoP K ps ++ [p] := by rw [knoP_app]; simp [knoP, h]
theorem ix_new {K : List (List Int)} {p : List Int} (h : ¬ p ∈ K) : (K ++ [p]).idxOf p = K.length := by rw [List.idxOf_append, if_neg h]; simp
/-- what the loop over the pieces keeps -/
structure NbI (w X : World) (r : Nat) (K ps : List (List Int)) (v : Value) : Prop where
  m : IsKn X r (knoP K ps)
  row : ∃ k, RA X 1 v ps.length (intsN (numP K ps)) k ∧ ∀ G, k = some G → w.heap.size ≤ G
  f : KpF (fun g => g = r) w X
theorem NbI.dN {w X : World} {r : Nat} {K ps : List (List Int)} {v : Value} (h : NbI w X r K ps v) (n : Nat) : NbI w (X.drewN n) r K ps v := by
  obtain ⟨k, h1, h2⟩ := h.row
  exact ⟨h.m.dN n, ⟨k, h1.dN n, h2⟩, h.f.dN n⟩
/-- one more number -/
theorem NbI.push {w X : World} {r : Nat} {K ps : List (List Int)} {v : Value} {p : List Int} {k : Option Nat} (hm : IsKn X r (knoP K (ps ++ [p]))) (hr : RA X 1 v ps.length (intsN (numP K ps)) k) (hk : ∀ G, k = some G → w.heap.size ≤ G) (hf : KpF (fun g => g = r) w X) (hlt : r < w.heap.size) (ty : TypeId) (hn : ps.length ≤ 1000000) {N : Nat} (hN : N = (knoP K (ps ++ [p])).idxOf p) :
    ∃ v' Y, (Builtin.append_ #[60, 60] ty #[v, .slice (some ⟨X.heap.size, 0, none⟩) 1 1]).run Tryd.prog (X.alloc (.cells #[.int .i64 (N : Int)] 3)) = .ok v' Y ∧ NbI w Y r K (ps ++ [p]) v' := by
  obtain ⟨v', Y, k', h1, h2, h3, h4⟩ := push_num X v ps.length _ k (N : Int) ty hr (by omega)
  have hrx : r < X.heap.size := Nat.lt_of_lt_of_le hlt hf.size
  refine ⟨v', Y, h1, hm.same (h3.block r hrx fun e => by have := hk r e; omega), ⟨k', ?_, fun G hG => ?_⟩, hf.trans (h3.mono (G := fun g => w.heap.size ≤ g) fun b _ e => hk b e) fun b hb e => by omega⟩
  · rw [numP_snoc, intsN_snoc, List.length_append, List.length_singleton, ← hN]; exact h2
  · rcases h4 G hG with e | e
    · exact hk G e
    · have := hf.size; omega
theorem NbI.old {w X : World} {r : Nat} {K ps : List (List Int)} {v : Value} (h : NbI w X r K ps v) {p : List Int} (hp : p ∈ knoP K ps) (hlt : r < w.heap.size) (ty : TypeId) (hn : ps.length ≤ 1000000) :
    ∃ v' Y, (Builtin.append_ #[60, 60] ty #[v, .slice (some ⟨X.heap.size, 0, none⟩) 1 1]).run Tryd.prog (X.alloc (.cells #[.int .i64 (((knoP K ps).idxOf p : Nat) : Int)] 3)) = .ok v' Y ∧ NbI w Y r K (ps ++ [p]) v' := by
  obtain ⟨k, h1, h2⟩ := h.row
  exact NbI.push (by rw [kno_in hp]; exact h.m) h1 h2 h.f hlt ty hn (by rw [kno_in hp])
theorem NbI.new {w X : World} {r : Nat} {K ps : List (List Int)} {v : Value} (h : NbI w X r K ps v) {p : List Int} (hp : ¬ p ∈ knoP K ps) (hb : ByL p) (hlt : r < w.heap.size) (ty : TypeId) (hn : ps.length ≤ 1000000) :
    ∃ W, (Instr.mapUpdate 81 (.map (some r)) (.string (strOfNums p)) (.int .i64 ((knoP K ps).length : Int))).run Tryd.prog X = .ok () W ∧
      ∃ v' Y, (Builtin.append_ #[60, 60] ty #[v, .slice (some ⟨W.heap.size, 0, none⟩) 1 1]).run Tryd.prog (W.alloc (.cells #[.int .i64 ((knoP K ps).length : Int)] 3)) = .ok v' Y ∧ NbI w Y r K (ps ++ [p]) v' := by
  obtain ⟨k, h1, h2⟩ := h.row
  obtain ⟨o, u1, u2, u3⟩ := h.m.put (P := Tryd.prog) Tryd.underlying81 Tryd.underlying9 hb hp
  refine ⟨_, u1, NbI.push (by rw [kno_new hp]; exact u2) (h1.kpf u3 fun G e g => ?_) h2 (h.f.trans u3 fun _ _ e => e) hlt ty hn (by rw [kno_new hp, ix_new hp])⟩
  have := h2 G e; omega
theorem cut_take {l : List Int} {cs : List Nat} {i : Nat} (hi : i + 1 < cs.length) : (cutP l cs).take (i + 1) = (cutP l cs).take i ++ [subL l (cs.getD i 0) (cs.getD (i + 1) 0)] := by
  rw [List.take_add_one, cutP_get l cs i hi]; rfl
set_option maxRecDepth 100000 in
set_option maxHeartbeats 4000000 in
theorem numbered_at (a : Option Addr) (c : Nat) (l : List Int) (a' : Option Addr) (c' : Nat) (cs : List Nat) (r : Nat) (K : List (List Int)) (w : World) (hB : ∀ X, KpF (fun g => g = r) w X → IsB X a c l) (hI : ∀ X, KpF (fun g => g = r) w X → IsI X a' cs) (hK : IsKn w r K) (ok : OkCut l cs) (hcs : cs.length ≤ 1000000) :
    Calls Tryd.prog 42 #[.slice a l.length c, .slice a' cs.length c', .map (some r)] w fun e w' => ∃ v, e = .returned v ∧ NbI w w' r K (cutP l cs) v := by
  have hlt := hK.1.lt
  have HB := hide hB
  have HI := hide hI
  have HOK := hide ok
  have hps := ok.pos
  have hcl := (hB w (KpF.refl _ _)).1
  have H0 : Hid (NbI w w r K ((cutP l cs).take 0) (.slice none 0 0)) := hide ⟨by simpa [knoP] using hK, ⟨none, RA.nil w 1, fun _ e => by cases e⟩, KpF.refl _ _⟩
  clear hB hI hK ok
  go_enter Tryd.func42, Tryd.ntmps42
  go_wp2_with fail
  go_loopw [7, 8, 9, 10, 11, 15] (fun v7 v8 v9 v10 v11 v15 wx => (∃ z, v8 = z) ∧ (∃ z, v9 = z) ∧ (∃ z, v10 = z) ∧ (∃ z, v11 = z) ∧ ∃ i : Nat, v15 = .int .i64 (i : Int) ∧ i + 1 ≤ cs.length ∧ Hid (NbI w wx r K ((cutP l cs).take i) v7)) (fun _ _ _ _ _ v15 _ => cs.length - (intOf v15).toNat)
  case atStart => exact ⟨⟨_, rfl⟩, ⟨_, rfl⟩, ⟨_, rfl⟩, ⟨_, rfl⟩, 0, rfl, hps, H0⟩
  case round =>
    clear H0
    obtain ⟨⟨z1, rfl⟩, ⟨z2, rfl⟩, ⟨z3, rfl⟩, ⟨z4, rfl⟩, i, rfl, hi, HN⟩ := hrel
    by_cases h1 : i + 1 < cs.length
    · have t1 : decide ((i : Int) < (cs.length : Int) - 1) = true := decide_eq_true (by omega)
      have hf := (unhide HN).f
      obtain ⟨g, off, ha, hg, cx⟩ := (unhide HI wr hf).at (k := i) (by omega)
      obtain ⟨i1, hi1⟩ : ∃ i1, i1 = i + 1 := ⟨_, rfl⟩
      have c1 := cx i (by omega)
      have c2 := cx i1 (by omega)
      have f1 : (i : Int) < (cs.length : Int) := by omega
      have f2 : (i : Int) + 1 < (cs.length : Int) := by omega
      have f3 : (0 : Int) ≤ (i : Int) := by omega
      have f4 : (0 : Int) ≤ (i : Int) + 1 := by omega
      have m1 := (unhide HOK).le (show i ≤ i1 by omega) (by omega)
      have m2 := (unhide HOK).at_le (show i1 < cs.length by omega)
      have hb := unhide HB
      have HCT := hide (cut_take (l := l) h1)
      rw [← hi1] at HCT
      have HBS := hide fun (X : World) (hX : KpF (fun g => g = r) w X) => ((hb X hX).loD (n := cs.getD i 0)).takeD (n := cs.getD i1 0 - cs.getD i 0)
      have hbn : ByL l := (hb w (KpF.refl _ _)).2.2.2
      have HBL : Hid (ByL (subL l (cs.getD i 0) (cs.getD i1 0))) := hide fun x hx => hbn x (List.mem_of_mem_drop (List.mem_of_mem_take hx))
      have hpl : cs.getD i1 0 - cs.getD i 0 = (subL l (cs.getD i 0) (cs.getD i1 0)).length := by unfold subL; rw [List.length_take, List.length_drop]; omega
      have HOLD := hide fun n (h : subL l (cs.getD i 0) (cs.getD i1 0) ∈ knoP K ((cutP l cs).take i)) => ((unhide HN).dN n).old h hlt 60 (by rw [List.length_take]; omega)
      have HNEW := hide fun n (h : ¬ subL l (cs.getD i 0) (cs.getD i1 0) ∈ knoP K ((cutP l cs).take i)) => ((unhide HN).dN n).new h (unhide HBL) hlt 60 (by rw [List.length_take]; omega)
      have HKN := hide fun n => ((unhide HN).dN n).m
      have HF := hide fun n => ((unhide HN).dN n).f
      have HASK := hide fun n => kn_ask ((unhide HN).dN n).m (unhide HBL)
      subst ha
      clear cx hb hbn hf HN
      obtain ⟨A, hA⟩ : ∃ A, (if c = cs.getD i 0 then a else a.map (·.add (cs.getD i 0))) = A := ⟨_, rfl⟩
      rw [hA] at HBS
      obtain ⟨p, hp⟩ : ∃ p, p = subL l (cs.getD i 0) (cs.getD i1 0) := ⟨_, rfl⟩
      rw [← hp] at HCT HBL hpl HOLD HNEW HASK
      have HBS2 : Hid (∀ X, KpF (fun g => g = r) w X → IsB X A (c - cs.getD i 0) p) := hide fun X hX => by rw [hp]; exact unhide HBS X hX
      clear hp HBS
      generalize cs.getD i 0 = lo at *
      generalize cs.getD i1 0 = hi2 at *
      have f5 : (lo : Int) ≤ (hi2 : Int) := by omega
      have f6 : (hi2 : Int) ≤ (c : Int) := by omega
      have f7 : hi2 ≤ c := by omega
      have f8 : (0 : Int) ≤ (lo : Int) := by omega
      subst hi1
      go_wp2_with fail
      go_quiet (fail)
      have KC := str_bs (wr.drewN nq) A (c - lo) p (unhide HBS2 _ (unhide HF nq)).2.2.1
      rcases unhide HASK nq with ⟨hmem, LK⟩ | ⟨hmem, LK⟩
      · clear hA c1 c2 f1 f2 f3 f4 f5 f6 f7 f8 m1 m2 hpl HASK HBS2 HBL HF HKN
        obtain ⟨v', Y, hr, hc⟩ := unhide HOLD nq hmem
        have RE := hide hr
        have HE := hide hc
        clear HOLD HNEW hr hc hmem hcl hlt hps
        generalize (knoP K (List.take i (cutP l cs))).idxOf p = N at *
        generalize wr.drewN nq = w3 at *
        generalize strOfNums p = sp at *
        go_wp2_with (at_builtin; refine wpList_append_known rfl _ _ 60 60 rfl _ _ rfl rfl _ _ (unhide RE) ?_; clear RE)
        go_roundw
        case rel =>
          clear KC LK t1
          exact ⟨⟨_, rfl⟩, ⟨_, rfl⟩, ⟨_, rfl⟩, ⟨_, rfl⟩, i + 1, by go_num, h1, hide (by rw [unhide HCT]; exact unhide HE)⟩
        case measure =>
          clear KC LK t1
          simp [intOf]; omega
      · clear hA c1 c2 f1 f2 f3 f4 f5 f6 f7 f8 m1 m2 hpl HASK HBS2 HBL HF
        obtain ⟨w4, u1, v', Y, hr, hc⟩ := unhide HNEW nq hmem
        have RE := hide hr
        have HE := hide hc
        have LN := kn_size (unhide HKN nq)
        clear HOLD HNEW HKN hr hc hmem hcl hlt hps
        generalize (knoP K (List.take i (cutP l cs))).length = N at *
        generalize strOfNums p = sp at *
        generalize wr.drewN nq = w3 at *
        go_wp2_with (at_builtin; refine wpList_append_known rfl _ _ 60 60 rfl _ _ rfl rfl _ _ (unhide RE) ?_; clear RE)
        go_roundw
        case rel =>
          clear KC LK t1
          exact ⟨⟨_, rfl⟩, ⟨_, rfl⟩, ⟨_, rfl⟩, ⟨_, rfl⟩, i + 1, by go_num, h1, hide (by rw [unhide HCT]; exact unhide HE)⟩
        case measure =>
          clear KC LK t1
          simp [intOf]; omega
    · have t1 : decide ((i : Int) < (cs.length : Int) - 1) = false := decide_eq_false (by omega)
      have HE : Hid (NbI w wr r K (cutP l cs) u7) := hide (by have := unhide HN; rwa [List.take_of_length_le (by rw [cutP_len]; omega)] at this)
      clear HN
      go_wp2_with fail
      refine bodyPost_ret (results_tmp rfl _ _ _) rfl ⟨u7, rfl, unhide HE⟩
end Go.Proofs.YtkdnanlgkedjgabDoor
end

section
namespace Go.Proofs.YtkdnanlgkedjgabDoor
open Go.ChangeShapes Go.WideShapes Go.ChangeAt Go.RowKit
attribute [local go_sem] Oper.semAt_some

theorem kq_tab {q : Nat → Prop} {A B : World} (h : KQ q A B) (hg : q 0) (hT : Tab A) : Tab B := fun i h1 h2 => kq_cell h hg (hT i h1 h2)
set_option maxRecDepth 100000 in
set_option maxHeartbeats 1000000 in
theorem all1_S (Bn : Nat) (l : List Int) (w : World) (hBw : w.cell? ⟨Bn, 0, none⟩ = some (.string (strOfNums l))) (hTw : Tab w) (hl : l.length ≤ maxLen) (hb : ∀ x ∈ l, 0 ≤ x ∧ x ≤ 255) :
    SeqQ Tryd.prog 57 #[.pointer (some ⟨Bn, 0, none⟩)] (encS l) (fun k => k = 0 ∨ k = Bn) 1 (spots l 0) w := by
  intro lo J Jx W hW hJ hJx hY h0 m
  have hBn : W.cell? ⟨Bn, 0, none⟩ = some (.string (strOfNums l)) := (hW.cell (p := ⟨Bn, 0, none⟩) (cell_lt hBw)).trans hBw
  have hT := hTw.below hW hTw.size
  clear hW hBw hTw
  refine callsIn_wide.2 ((callsIn_wide (n := 2)).1 ?_)
  have hBq := cell_lt hBn
  have h0q := hT.size
  have hsz : (strOfNums l).size = l.length := strOfNums_size l
  have HLB := hide hb
  have hl' := hl
  unfold maxLen at hl'
  clear hb
  refine callsIn_of_wp Tryd.func57 rfl trivial ?_ rfl
  simp only [Tryd.ntmps57, List.size_toArray, List.length_cons, List.length_nil, Nat.reduceAdd, Nat.reduceSub, Array.replicate_succ, Array.replicate_zero, List.push_toArray, List.append_toArray, List.nil_append, List.cons_append]
  gi_wp2
  gi_loopw [3, 4] (fun _ _ wr => ∃ (pos : Nat) (pre : List Nat), wr.heap[W.heap.size]? = some (.stringIter (strOfNums l) pos) ∧ pos ≤ l.length ∧ spots l 0 = pre ++ spots l pos ∧ J pre wr ∧ KQ (fun k => k = 0 ∨ k = Bn) W wr) (fun _ _ wr => (strOfNums l).size - wr.iterPos W.heap.size)
  case atStart => exact ⟨0, [], World.iter_heap W _ 0, Nat.zero_le _, rfl, hJ [] W _ h0 (ch_below ((Below.refl _ W).alloc (Nat.le_refl _) _) (Nat.le_refl _)), KQ.all ((Below.refl _ W).alloc (Nat.le_refl _) _)⟩
  case round =>
    obtain ⟨pos, pre, hk, hpl, hsp, hJs, hbw⟩ := hrel
    have HSP := hide hsp
    clear hsp
    by_cases hp : pos < l.length
    · have hps : pos < (strOfNums l).size := by rw [hsz]; exact hp
      have hnx : ∀ ty, (Instr.next (.pointer (some ⟨W.heap.size, 0, none⟩)) true ty).run Tryd.prog wr = _ := fun ty => next_in wr W.heap.size (strOfNums l) pos ty hk hps
      obtain ⟨e1, e2⟩ := decode_stp (unhide HLB) hp
      rw [e1, e2] at hnx
      have hx := str_extract l pos l.length
      rw [List.take_of_length_le (by simp)] at hx
      have hlt := heap_lt hk
      have hbp := below_putl wr W.heap.size (.stringIter (strOfNums l) (pos + wid (l.drop pos))) (Nat.le_refl _)
      have hJ1 := hJ pre wr _ hJs (ch_put wr W.heap.size (.stringIter (strOfNums l) (pos + wid (l.drop pos))) (Nat.le_refl _) (by omega))
      have hk1 : (wr.putObj W.heap.size (.stringIter (strOfNums l) (pos + wid (l.drop pos)))).heap[W.heap.size]? = some (.stringIter (strOfNums l) (pos + wid (l.drop pos))) := World.putObj_heap_same hlt
      have hip := pos_in hk
      have HSC := hide (spots_cons hp)
      have hwl := wid_len hp
      have hwp := wid_pos hp
      have hc1 : (wr.putObj W.heap.size (.stringIter (strOfNums l) (pos + wid (l.drop pos)))).cell? ⟨Bn, 0, none⟩ = some (.string (strOfNums l)) := (hbp.cell (p := ⟨Bn, 0, none⟩) hBq).trans (kq_cell hbw (Or.inr rfl) hBn)
      have hT1 := (kq_tab hbw (Or.inl rfl) hT).below hbp h0q
      have hb1 : KQ (fun k => k = 0 ∨ k = Bn) W (wr.putObj W.heap.size (.stringIter (strOfNums l) (pos + wid (l.drop pos)))) :=
        ⟨by simpa using hbw.1, fun k hk' hl => (World.putObj_heap_other (by rcases hk' with rfl | rfl <;> omega)).trans (hbw.2 k hk' hl)⟩
      have HK1 := hide hk1
      have HNX := hide hnx
      clear e1 e2 hk1 hnx hk hJs hbw hbp
      generalize hw1 : wr.putObj W.heap.size (.stringIter (strOfNums l) (pos + wid (l.drop pos))) = w1 at *
      have hnx := unhide HNX
      gi_wp2_with fail
      refine ⟨trivial, ?_⟩
      refine (callsIn_wide.2 (told_at (l.drop pos) w1 (by simp; omega) (fun x hx => unhide HLB x (List.mem_of_mem_drop hx)) (by simp; omega) hT1)).mono ?_
      unfold stp stepV
      rintro e w2 ⟨rfl, hb2⟩
      have s1 := hb1.1
      have hJ2 := hJ pre w1 w2 hJ1 (ch_below hb2 s1)
      have hbb := hb1.trans (KQ.all hb2)
      have hk2 := (hb2.block W.heap.size (heap_lt (unhide HK1))).trans (unhide HK1)
      have s2 := hb2.size
      have hlt1 := heap_lt (unhide HK1)
      obtain ⟨fn, tmps, assign, body, hy, hR⟩ := hY pre pos w2 (2 - 1) ⟨spots l (pos + wid (l.drop pos)), by rw [unhide HSP, unhide HSC]; simp⟩ hJ2 (by omega)
      unfold encS at hy
      clear hc1 hT1 hJ1 hnx HNX HK1 hb1 hb2 hw1
      gi_wp2_with fail
      refine hR.mono ?_
      rintro e w3 ⟨hk3, (⟨rfl, hJ3⟩ | ⟨rfl, hJx3⟩)⟩
      · have hk4 := (hk3.2 W.heap.size (Or.inr ⟨Nat.le_refl _, by omega⟩) (heap_lt hk2)).trans hk2
        gi_wp2
        go_roundw
        case rel => exact ⟨pos + wid (l.drop pos), pre ++ [pos], hk4, hwl, by rw [unhide HSP, unhide HSC]; simp, hJ3, hbb.trans (hk3.weak fun k hk => Or.inl hk)⟩
        case measure => rw [pos_in hk4, hip]; omega
      · gi_wp2
        refine bodyPost_ret (results_none rfl _ _ _) rfl ?_
        exact ⟨⟨_, rfl⟩, .inr ⟨pre ++ [pos], ⟨spots l (pos + wid (l.drop pos)), by rw [unhide HSP, unhide HSC]; simp⟩, hJx3⟩⟩
    · have hps : ¬ pos < (strOfNums l).size := by rw [hsz]; exact hp
      have hnx : ∀ ty, (Instr.next (.pointer (some ⟨W.heap.size, 0, none⟩)) true ty).run Tryd.prog wr = _ := fun ty => next_out wr W.heap.size (strOfNums l) pos ty hk hps
      have HE : Hid (pre = spots l 0) := hide (by rw [unhide HSP, spots_end hp]; simp)
      gi_wp2
      go_end0
      exact ⟨⟨_, rfl⟩, .inl (by rw [unhide HE] at hJs; exact hJs)⟩

/-- how many steps, and where they begin -/
theorem spots_le (l : List Int) : ∀ (n p : Nat), l.length - p ≤ n → p ≤ l.length → (spots l p).length + p ≤ l.length ∧ l.length ≤ p + 4 * (spots l p).length
  | 0, p, h, hp => by rw [spots_end (by omega)]; simp; omega
  | n + 1, p, h, hp => by
    by_cases hlt : p < l.length
    · have h1 := wid_pos hlt
      have h2 := wid_len hlt
      have h3 := wid_four (l.drop p)
      have ih := spots_le l n (p + wid (l.drop p)) (by omega) h2
      rw [spots_cons hlt, List.length_cons]
      omega
    · rw [spots_end hlt]; simp; omega
theorem spots_ge (l : List Int) : ∀ (n p : Nat), l.length - p ≤ n → ∀ q ∈ spots l p, p ≤ q ∧ q < l.length
  | 0, p, h, q, hq => by rw [spots_end (by omega)] at hq; cases hq
  | n + 1, p, h, q, hq => by
    by_cases hlt : p < l.length
    · rw [spots_cons hlt] at hq
      rcases List.mem_cons.1 hq with rfl | hq
      · exact ⟨Nat.le_refl _, hlt⟩
      · have h1 := wid_pos hlt
        have := spots_ge l n _ (by omega) q hq
        omega
    · rw [spots_end hlt] at hq; cases hq
theorem spots_up (l : List Int) : ∀ (n p : Nat), l.length - p ≤ n → (spots l p).Pairwise (· < ·)
  | 0, p, h => by rw [spots_end (by omega)]; exact List.Pairwise.nil
  | n + 1, p, h => by
    by_cases hlt : p < l.length
    · have h1 := wid_pos hlt
      rw [spots_cons hlt, List.pairwise_cons]
      refine ⟨fun q hq => ?_, spots_up l n _ (by omega)⟩
      have := spots_ge l _ _ (Nat.le_refl _) q hq
      omega
    · rw [spots_end hlt]; exact List.Pairwise.nil
/-- a text's cuts at its steps -/
def cutS (l : List Int) : List Nat := spots l 0 ++ [l.length]
theorem cutS_ok (l : List Int) : OkCut l (cutS l) := by
  refine ⟨?_, by simp [cutS], ?_⟩
  · unfold cutS
    by_cases h : 0 < l.length
    · rw [spots_cons h]; rfl
    · rw [spots_end h, List.nil_append, List.head?_cons, show l.length = 0 by omega]
  · unfold cutS
    rw [List.pairwise_append]
    refine ⟨spots_up l _ 0 (Nat.le_refl _), by simp, fun a ha b hb => ?_⟩
    simp at hb; subst hb
    exact (spots_ge l _ 0 (Nat.le_refl _) a ha).2
/-- what the loop that counts keeps -/
structure StN (w : World) (n : Nat) (pre : List Nat) (X : World) : Prop where
  s : Cls X n 3 #[.int .i64 (pre.length : Int)]
  b : Below n w X
theorem StN.abd {w : World} {n N m : Nat} (hN : n + 1 ≤ N) : AbdC N m (StN w n) := fun _ _ _ h hb => ⟨h.s.below hb.1 (by omega), h.b.trans (hb.1.mono (by omega))⟩
theorem pre_sp {l : List Int} {pre : List Nat} {x : Nat} (h : pre ++ [x] <+: spots l 0) : pre.length < (spots l 0).length := by
  have := h.length_le
  simp at this; omega
set_option maxRecDepth 100000 in
set_option maxHeartbeats 4000000 in
theorem steps_at (a0 : Option Addr) (cap : Nat) (l : List Int) (w : World) (hB : IsB w a0 cap l) (hT : Tab w) :
    Calls Tryd.prog 25 #[.slice a0 l.length cap] w fun y w' => y = .returned (.int .i64 ((spots l 0).length : Int)) ∧ Below w.heap.size w w' := by
  refine (callsIn_wide (n := 4)).1 ?_
  refine callsIn_of_wp_marks Tryd.func25 rfl trivial ?_ rfl
  simp only [Tryd.ntmps25, List.size_toArray, List.length_cons, List.length_nil, Nat.reduceAdd, Nat.reduceSub, Array.replicate_succ, Array.replicate_zero, List.push_toArray, List.append_toArray, List.nil_append, List.cons_append]
  refine wpIn_wide.2 ?_
  have hlen := hB.2.1
  have hsp := spots_le l l.length 0 (by omega) (Nat.zero_le _)
  have h0 := hT.size
  have k1 := Cls.new w 3 #[.int .i64 0]
  have b1 := (Below.refl w.heap.size w).alloc (Nat.le_refl _) (.cells #[.int .i64 0] 3)
  have z1 : (w.alloc (.cells #[.int .i64 0] 3)).heap.size = w.heap.size + 1 := by simp
  go_wp2_with fail
  generalize w.alloc (.cells #[.int .i64 0] 3) = w2 at *
  refine (All_at a0 cap l w2 (hB.below b1 (Nat.le_refl _))).mono ?_
  rintro y w3' ⟨rfl, rfl⟩
  have hseq : SeqQ Tryd.prog 57 #[.pointer (some ⟨w2.heap.size, 0, none⟩)] (encS l) (fun k => k = 0 ∨ k = w2.heap.size) 1 (spots l 0) (w2.alloc (.cells #[.string (strOfNums l)] 9)) :=
    all1_S w2.heap.size l _ ((World.cell?_alloc_mark w2 _ _ (0, 0) 0).trans rfl) (hT.below (b1.alloc b1.size _) h0) (by unfold maxLen; omega) hB.2.2.2
  have i0 : StN w w.heap.size [] (w2.alloc (.cells #[.string (strOfNums l)] 9)) := ⟨k1.alloc _, b1.alloc b1.size _⟩
  have z3 : (w2.alloc (.cells #[.string (strOfNums l)] 9)).heap.size = w.heap.size + 2 := by simp [z1]
  clear k1 b1
  go_wp2_with fail
  generalize w2.alloc (.cells #[.string (strOfNums l)] 9) = w3 at *
  generalize w2.heap.size = gB at *
  subst z1
  clear hB
  generalize hn : w.heap.size = n at *
  refine (wpIn_wide (n := 4)).1 ?_
  refine range_q (gf := 57) (lb := #[.pointer (some ⟨n + 1, 0, none⟩)]) rfl (enters_of Tryd.func57 (by kernel_rfl) rfl) hseq (Below.refl _ _) (fun k hk => by rcases hk with rfl | rfl <;> omega) (fun _ => rfl)
    (StN w n) (fun _ _ _ => False) (StN.abd (by omega)) (fun _ _ _ _ h _ => h) i0 (by decide)
    (fun x a X => ∃ u, a = { tmps := #[.slice a0 l.length cap, undef, .int .i64 0, .pointer (some ⟨n, 0, none⟩), .slice a0 l.length cap, .func (.func 57) #[] #[.pointer (some ⟨n + 1, 0, none⟩)], .int .i64 (x : Int), u, undef, undef, undef], defers := [] }) ?hax ?assign ?body ?done ?stop
  case hax => exact fun x a' X k o o' hX h => h
  case assign =>
    rintro k pre x X K hpre hi hsz hK
    gi_wp2
    exact hK _ _ (Below.refl _ X) ⟨_, by simp [encS]; rfl⟩
  case body =>
    rintro k pre x a' X hk ⟨rec, hrec⟩ hpre hi ⟨u, rfl⟩ hsz
    have c1 := hi.s.cell 0
    have f1 := hi.s.frozen 0
    simp only [List.getElem?_toArray, List.getElem?_cons_zero] at c1
    have hpl := pre_sp hpre
    have hw : wrap64 ((pre.length : Int) + 1) = (pre.length : Int) + 1 := wrap_nat pre.length 1 (by omega)
    gi_wp2
    have s2 := hi.s.set 0 (.int .i64 ((pre.length : Int) + 1))
    simp only [List.setIfInBounds_toArray, List.set_cons_zero] at s2
    refine ⟨KQ.setCell X ⟨n, 0, none⟩ _ ?_, ⟨?_, hi.b.trans (setCell_below X _ _ (Nat.le_refl _))⟩⟩
    · show ¬ ((n = 0 ∨ n = n + 1) ∨ w3.heap.size ≤ n ∧ n < w3.heap.size + 3); omega
    · rw [List.length_append, List.length_singleton, Int.natCast_add]; exact s2
  case done =>
    rintro D X hD hi hK
    have c1 := hi.s.cell 0
    simp only [List.getElem?_toArray, List.getElem?_cons_zero] at c1
    go_wp2
    refine ⟨by simp, .inl ⟨_, _, rfl, run_takeDeferred hK, ?_⟩⟩
    exact ⟨_, results_tmp rfl _ _ _, rfl, hn ▸ (hi.b.trans (below_putl X D _ (by omega)))⟩
  case stop =>
    rintro D c pre X hD hpre h hK
    exact h.elim
theorem step_append_knownT {P : Program} {ops : Array Oper} {o : Oper} {a : Act} {w : World} {K : Act → World → Prop} {Q : Exit → Act → World → Prop} {E : Prop} (hw : Region.wanted o (yielded ops a.tmps) = true) (s x : Operand) (t tx : TypeId)
    (ho : o.op = .call { callee := .builtin .append, args := #[s, x], argTypes := #[t, tx] }) (v u : Value) (hs : a.eval s = v) (hx : a.eval x = u) (v' : Value) (w' : World)
    (hr : (Builtin.append_ #[t, tx] o.type #[v, u]).run P w = .ok v' w') (h : K (a.put o.dst v') w') : if Region.wanted o (yielded ops a.tmps) = true then Oper.wp P o a w K Q else E := by
  rw [if_pos hw]
  unfold Oper.wp execOp
  simp only [ho, resolve, invoke, builtin, Sem.run_bind, Sem.run_pure, Result.andThen_ok, List.map_toArray, List.map_cons, List.map_nil, hs, hx, hr]
  exact h
theorem ra_notD {X : World} {v : Value} {n : Nat} {xs : List Value} {G D : Nat} (h : RA X 1 v n xs (some G)) (hn : 0 < n) (hD : X.heap[D]? = some (.deferred (some []))) : G ≠ D := by
  rintro rfl
  obtain ⟨g, off, c, _, e, _, hc, hr, _⟩ := h.form hn
  cases e
  have := (hr 0 (by omega)).1
  simp [World.cell?, hD] at this
/-- what the loop that cuts keeps -/
structure CtN (w : World) (n N : Nat) (pre : List Nat) (X : World) : Prop where
  r : ∃ v k, Cls X n 60 #[v] ∧ RA X 1 v pre.length (intsN pre) k ∧ (∀ G, k = some G → N + 3 ≤ G) ∧ (pre = [] → k = none)
  b : Below n w X
theorem CtN.abd {w : World} {n N : Nat} (hN : n + 1 ≤ N) : AbdC N 3 (CtN w n N) := fun _ _ _ h hb => by
  obtain ⟨v, k, h1, h2, h3, h4⟩ := h.r
  exact ⟨⟨v, k, h1.below hb.1 (by omega), h2.same hb.1.size (fun G e hl => hb.2 G (h3 G e) hl), h3, h4⟩, h.b.trans (hb.1.mono (by omega))⟩
set_option maxRecDepth 100000 in
set_option maxHeartbeats 4000000 in
theorem stepCuts_at (a0 : Option Addr) (cap : Nat) (l : List Int) (w : World) (hB : IsB w a0 cap l) (hT : Tab w) :
    Calls Tryd.prog 27 #[.slice a0 l.length cap] w fun y w' => ∃ a' n' c', y = .returned (.tuple #[.slice a' n' c', .bool (decide ((spots l 0).length ≤ 2048))]) ∧ Below w.heap.size w w' ∧
      ((spots l 0).length ≤ 2048 → n' = (cutS l).length ∧ IsI w' a' (cutS l) ∧ (cutS l).length ≤ c') := by
  refine (callsIn_wide (n := 4)).1 ?_
  refine callsIn_of_wp_marks Tryd.func27 rfl trivial ?_ rfl
  simp only [Tryd.ntmps27, List.size_toArray, List.length_cons, List.length_nil, Nat.reduceAdd, Nat.reduceSub, Array.replicate_succ, Array.replicate_zero, List.push_toArray, List.append_toArray, List.nil_append, List.cons_append]
  refine wpIn_wide.2 ?_
  have hsp := spots_le l l.length 0 (by omega) (Nat.zero_le _)
  by_cases hbig : 8192 < l.length
  · have t1 : decide ((l.length : Int) > 8192) = true := decide_eq_true (by omega)
    have t2 : decide ((8192 : Int) < (l.length : Int)) = true := decide_eq_true (by omega)
    have hno : ¬ (spots l 0).length ≤ 2048 := by omega
    have hno' : decide ((spots l 0).length ≤ 2048) = false := decide_eq_false hno
    rw [hno']
    have HN := hide hno
    clear hno hno' hsp
    go_wp2_with fail
    exact ⟨_, results_tmp2 rfl _ _ _, none, 0, 0, rfl, Below.refl _ _, fun h => absurd h (unhide HN)⟩
  have t1 : decide ((l.length : Int) > 8192) = false := decide_eq_false (by omega)
  have t2 : decide ((8192 : Int) < (l.length : Int)) = false := decide_eq_false (by omega)
  have h0 := hT.size
  have k1 := Cls.new w 60 #[.slice none 0 0]
  have b1 := (Below.refl w.heap.size w).alloc (Nat.le_refl _) (.cells #[.slice none 0 0] 60)
  have z1 : (w.alloc (.cells #[.slice none 0 0] 60)).heap.size = w.heap.size + 1 := by simp
  go_wp2_with fail
  generalize w.alloc (.cells #[.slice none 0 0] 60) = w2 at *
  refine (All_at a0 cap l w2 (hB.below b1 (Nat.le_refl _))).mono ?_
  rintro y w3' ⟨rfl, rfl⟩
  have hseq : SeqQ Tryd.prog 57 #[.pointer (some ⟨w2.heap.size, 0, none⟩)] (encS l) (fun k => k = 0 ∨ k = w2.heap.size) 1 (spots l 0) (w2.alloc (.cells #[.string (strOfNums l)] 9)) :=
    all1_S w2.heap.size l _ ((World.cell?_alloc_mark w2 _ _ (0, 0) 0).trans rfl) (hT.below (b1.alloc b1.size _) h0) (by unfold maxLen; omega) hB.2.2.2
  have k2 := k1.alloc (.cells #[.string (strOfNums l)] 9)
  have b2 := b1.alloc (o := .cells #[.string (strOfNums l)] 9) b1.size
  have z3 : (w2.alloc (.cells #[.string (strOfNums l)] 9)).heap.size = w.heap.size + 2 := by simp [z1]
  clear k1 b1
  go_wp2_with fail
  generalize w2.alloc (.cells #[.string (strOfNums l)] 9) = w3 at *
  generalize w2.heap.size = gB at *
  subst z1
  clear hB
  have i0 : CtN w w.heap.size w3.heap.size [] w3 := ⟨⟨_, none, k2, RA.nil _ _, fun _ e => (by cases e), fun _ => rfl⟩, b2⟩
  clear k2 b2
  generalize hn : w.heap.size = n at *
  refine (wpIn_wide (n := 4)).1 ?_
  refine range_q (gf := 57) (lb := #[.pointer (some ⟨n + 1, 0, none⟩)]) rfl (enters_of Tryd.func57 (by kernel_rfl) rfl) hseq (Below.refl _ _) (fun k hk => by rcases hk with rfl | rfl <;> omega) (fun _ => rfl)
    (CtN w n w3.heap.size) (fun _ _ _ => False) (CtN.abd (by omega)) (fun _ _ _ _ h _ => h) i0 (by decide)
    (fun x a X => ∃ u, a = { tmps := #[.slice a0 l.length cap, undef, .slice none 0 0, .bool false, .pointer (some ⟨n, 0, none⟩), .int .i64 (x : Int), .slice a0 l.length cap, .int .i64 (l.length : Int), .bool false, .slice a0 l.length cap, .func (.func 57) #[] #[.pointer (some ⟨n + 1, 0, none⟩)], .int .i64 (x : Int), u, undef, undef, undef, undef, undef, undef, undef, undef, undef, undef, undef, undef], defers := [] }) ?hax ?assign ?body ?done ?stop
  case hax => exact fun x a' X k o o' hX h => h
  case assign =>
    rintro k pre x X K hpre hi hsz hK
    unfold encS
    gi_wp2
    exact hK _ _ (Below.refl _ X) ⟨_, rfl⟩
  case body =>
    rintro kk pre x a' X hk ⟨rec, hrec⟩ hpre hi ⟨u, rfl⟩ hsz
    obtain ⟨v, k, h1, h2, h3, h4⟩ := hi.r
    have hpl := pre_sp hpre
    have hb := hi.b
    clear hi hpre
    have c1 := h1.cell 0
    simp only [List.getElem?_toArray, List.getElem?_cons_zero] at c1
    obtain ⟨v', W', k', r1, o1, y1, y2⟩ := push_num X v pre.length (intsN pre) k (x : Int) 60 h2 (by omega)
    obtain ⟨g', off', cap', rfl, _⟩ := o1.form (Nat.succ_pos _)
    have hnk : ¬ k = some n := fun e => by have := h3 n e; omega
    have h1' := h1.kpf y1 hnk
    have f1 := h1'.frozen 0
    have d1 := h1'.cell 0
    simp only [List.getElem?_toArray, List.getElem?_cons_zero] at d1
    have R1 := hide r1
    clear r1
    gi_wp2_with (gi_at_builtin; refine wpListIn_append_known rfl _ _ 60 60 rfl _ _ rfl rfl _ _ (unhide R1) ?_)
    have s2 := h1'.set 0 (.slice (some ⟨g', off', none⟩) (pre.length + 1) cap')
    simp only [List.setIfInBounds_toArray, List.set_cons_zero] at s2
    have kq : KQ (own (fun k => k = 0 ∨ k = n + 1) w3.heap.size (2 + 1)) X W' := ⟨y1.size, fun b hb hl => y1.block b hl (fun e => by have := h3 b e; unfold own at hb; omega)⟩
    have hXn : w3.heap.size ≤ X.heap.size := by omega
    have hk3 : ∀ G, k' = some G → w3.heap.size + 3 ≤ G := fun G e => by
      rcases y2 G e with e | e
      · exact h3 G e
      · omega
    refine ⟨kq.trans (KQ.setCell W' ⟨n, 0, none⟩ _ (by show ¬ ((n = 0 ∨ n = n + 1) ∨ (w3.heap.size ≤ n ∧ n < w3.heap.size + (2 + 1))); omega)), ⟨⟨_, k', s2, ?_, hk3, fun e => by simp at e⟩, (hb.trans (y1.below (by omega) fun b e => by have := h3 b e; omega)).trans (setCell_below W' _ _ (Nat.le_refl _))⟩⟩
    rw [List.length_append, List.length_singleton, intsN_snoc]
    exact o1.setOther ⟨n, 0, none⟩ _ (fun e => by have := hk3 n e; omega)
  case done =>
    rintro D X hD hi hK
    obtain ⟨v, k, h1, h2, h3, h4⟩ := hi.r
    obtain ⟨a', c', rfl, _, _⟩ := ra_ints h2
    have c1 := h1.cell 0
    simp only [List.getElem?_toArray, List.getElem?_cons_zero] at c1
    have hb := hi.b
    clear hi
    go_wp2_with fail
    have h2' : RA X.drew 1 (.slice a' (spots l 0).length c') (spots l 0).length (intsN (spots l 0)) k := h2.same (Nat.le_refl _) fun _ _ _ => rfl
    obtain ⟨v', W', k', r1, o1, y1, y2⟩ := push_num X.drew (.slice a' (spots l 0).length c') (spots l 0).length (intsN (spots l 0)) k (l.length : Int) 60 h2' (by omega)
    have e1 : X.drew.cell? ⟨n, 0, none⟩ = some (.slice a' (spots l 0).length c') := c1
    have e2 : (X.drew.alloc (.cells #[.int .i64 (l.length : Int)] 3)).cell? ⟨n, 0, none⟩ = some (.slice a' (spots l 0).length c') := by rw [World.cell?_of_block (a := ⟨n, 0, none⟩) (heap_alloc_old _ _ (cell_lt e1))]; exact e1
    have e3 : W'.cell? ⟨n, 0, none⟩ = some (.slice a' (spots l 0).length c') := by rw [World.cell?_of_block (a := ⟨n, 0, none⟩) (y1.block n (cell_lt e1) (fun e => by have := h3 n e; omega))]; exact e1
    have hKW : W'.heap[D]? = some (.deferred (some [])) := (y1.block D (heap_lt hK) (fun e => by
      subst e
      by_cases h0 : 0 < (spots l 0).length
      · exact ra_notD h2 h0 hK rfl
      · have := h4 (List.length_eq_zero_iff.1 (by omega)); cases this)).trans hK
    have hbW : Below n w W' := hb.drew.trans (y1.below (by have := hb.size; show n ≤ X.heap.size; omega) fun b e => by have := h3 b e; omega)
    have R1 := hide r1
    have HO := hide o1
    have HKW := hide hKW
    have HBW := hide hbW
    have HSW := hide hsp
    clear r1 o1 hKW hbW y1 y2 h1 h2 h2' h3 h4 hb hK c1
    obtain ⟨m, hm⟩ : ∃ m, m = (spots l 0).length := ⟨_, rfl⟩
    rw [← hm] at e1 e2 e3 R1
    have HM := hide hm
    clear hm hsp
    refine wp_onlyN ?_
    refine regionL (S := fun w' => w'.cell? ⟨n, 0, none⟩ = some (.slice a' m c')) (fun _ => false) (by kernel_rfl) ?_
    generalize X.drew = X1 at *
    refine anyL_take (i := 0) (v := ?vq0) rfl (by kernel_rfl) (by kernel_rfl) (by kernel_rfl) (by kernel_rfl) (fun _ _ _ h => h) (Or.inl ⟨by rfl, ?hq0⟩) (e1) ?_
    case hq0 => (intro w hSw; (try dsimp only at hSw); go_simp) <;> with_reducible rfl
    simp only [Act.put, List.getElem_toArray, List.getElem_cons_zero, List.setIfInBounds_toArray, List.set_cons_zero, List.set_cons_succ]
    refine anyL_take (i := 1) (v := ?vq1) rfl (by kernel_rfl) (by kernel_rfl) (by kernel_rfl) (by kernel_rfl) (fun _ _ _ h => h) (Or.inl ⟨by rfl, ?hq1⟩) (e1) ?_
    case hq1 => (intro w hSw; (try dsimp only at hSw); go_simp) <;> with_reducible rfl
    simp only [Act.put, List.getElem_toArray, List.getElem_cons_zero, List.getElem_cons_succ, List.setIfInBounds_toArray, List.set_cons_zero, List.set_cons_succ]
    refine anyL_take (i := 2) (v := ?vq2) rfl (by kernel_rfl) (by kernel_rfl) (by kernel_rfl) (by kernel_rfl) (fun _ _ _ h => h) (Or.inl ⟨by rfl, ?hq2⟩) (e1) ?_
    case hq2 => (intro w hSw; (try dsimp only at hSw); go_simp) <;> with_reducible rfl
    simp only [Act.put, List.getElem_toArray, List.getElem_cons_zero, List.getElem_cons_succ, List.setIfInBounds_toArray, List.set_cons_zero, List.set_cons_succ]
    refine anyL_take (i := 5) (v := ?vq3) rfl (by kernel_rfl) (by kernel_rfl) (by kernel_rfl) (by kernel_rfl) (fun _ _ _ h => h) (Or.inl ⟨by rfl, ?hq3⟩) (e1) ?_
    case hq3 => (intro w hSw; (try dsimp only at hSw); go_simp) <;> with_reducible rfl
    simp only [Act.put, List.getElem_toArray, List.getElem_cons_zero, List.getElem_cons_succ, List.setIfInBounds_toArray, List.set_cons_zero, List.set_cons_succ]
    refine anyL_take (i := 6) (v := ?vq4) rfl (by kernel_rfl) (by kernel_rfl) (by kernel_rfl) (by kernel_rfl) (fun _ _ _ h => h) (Or.inl ⟨by rfl, ?hq4⟩) (e1) ?_
    case hq4 => (intro w hSw; (try dsimp only at hSw); go_simp) <;> with_reducible rfl
    simp only [Act.put, List.getElem_toArray, List.getElem_cons_zero, List.getElem_cons_succ, List.setIfInBounds_toArray, List.set_cons_zero, List.set_cons_succ]
    refine anyL_take (i := 7) (v := ?vq5) rfl (by kernel_rfl) (by kernel_rfl) (by kernel_rfl) (by kernel_rfl) (fun _ _ _ h => h) (Or.inl ⟨by rfl, ?hq5⟩) (e1) ?_
    case hq5 => (intro w hSw; (try dsimp only at hSw); go_simp) <;> with_reducible rfl
    simp only [Act.put, List.getElem_toArray, List.getElem_cons_zero, List.getElem_cons_succ, List.setIfInBounds_toArray, List.set_cons_zero, List.set_cons_succ]
    refine anyL_ready (rs := [3]) (by kernel_rfl) (by simp) ?_
    refine AllL.cons rfl (fun K hK => ?_) AllL.nil
    go_simp
    refine unhide hK _ _ (fun _ => e2) ?_
    clear hK K
    refine anyL_ready (rs := [4]) (by kernel_rfl) (by simp) ?_
    refine AllL.cons rfl (fun K hK => ?_) AllL.nil
    refine step_append_knownT rfl _ _ 60 60 rfl _ _ rfl rfl _ _ (unhide R1) ?_
    go_simp
    refine unhide hK _ _ (fun _ => e3) ?_
    clear hK K
    refine anyL_take (i := 8) (v := ?vq6) rfl (by kernel_rfl) (by kernel_rfl) (by kernel_rfl) (by kernel_rfl) (fun _ _ _ h => h) (Or.inl ⟨by rfl, ?hq6⟩) (e3) ?_
    case hq6 => (intro w hSw; (try dsimp only at hSw); go_simp) <;> with_reducible rfl
    simp only [Act.put, List.getElem_toArray, List.getElem_cons_zero, List.getElem_cons_succ, List.setIfInBounds_toArray, List.set_cons_zero, List.set_cons_succ]
    refine anyL_take (i := 9) (v := ?vq7) rfl (by kernel_rfl) (by kernel_rfl) (by kernel_rfl) (by kernel_rfl) (fun _ _ _ h => h) (Or.inl ⟨by rfl, ?hq7⟩) (e3) ?_
    case hq7 => (intro w hSw; (try dsimp only at hSw); go_simp) <;> with_reducible rfl
    simp only [Act.put, List.getElem_toArray, List.getElem_cons_zero, List.getElem_cons_succ, List.setIfInBounds_toArray, List.set_cons_zero, List.set_cons_succ]
    refine anyL_done (by kernel_rfl) ?_ _
    clear e1 e2 e3 R1
    unfold onlyN
    go_wp2_with fail
    refine ⟨by simp, .inl ⟨_, _, rfl, run_takeDeferred (unhide HKW), ?_⟩⟩
    have o2 : RA (W'.putObj D (.deferred none)) 1 v' ((spots l 0).length + 1) (intsN (spots l 0) ++ [.int .i64 (l.length : Int)]) k' := (unhide HO).same (by simp) fun G e _ => World.putObj_heap_other (by
      subst e
      exact (ra_notD (unhide HO) (Nat.succ_pos _) (unhide HKW)))
    have e9 : intsN (spots l 0) ++ [.int .i64 (l.length : Int)] = intsN (cutS l) := by unfold cutS; rw [intsN_snoc]
    have e8 : (spots l 0).length + 1 = (cutS l).length := by simp [cutS]
    rw [e9, e8] at o2
    obtain ⟨a2, c2, rfl, i2, l2⟩ := ra_ints o2
    have hde : decide ((m : Int) ≤ 2048) = decide ((spots l 0).length ≤ 2048) := by rw [decide_eq_decide, unhide HM]; omega
    rw [hde]
    exact ⟨_, results_tmp2 rfl _ _ _, a2, _, c2, rfl, hn ▸ (unhide HBW).trans (below_putl W' D _ (by omega)), fun _ => ⟨rfl, i2, l2⟩⟩
  case stop =>
    rintro D c pre X hD hpre h hK
    exact h.elim
end Go.Proofs.YtkdnanlgkedjgabDoor
end

section
namespace Go.Proofs.YtkdnanlgkedjgabDoor
open Go.ChangeShapes Go.WideShapes Go.ChangeAt Go.RowKit
attribute [local go_sem] Oper.semAt_some

theorem starts_up {l : List Int} : ∀ (f k s : Nat), l.length - s ≤ f → s ≤ l.length → ((lnR l k s).map fun e => e.2.1).Pairwise (· < ·) ∧ (∀ q ∈ (lnR l k s).map fun e => e.2.1, s ≤ q ∧ q ≤ l.length) ∧ ((lnR l k s).map fun e => e.2.1).head? = some s := by
  intro f
  induction f with
  | zero =>
    intro k s h hs
    have hn : ¬ ctn l s < l.length := by have := ctn_le l s; omega
    rw [lnR_last hn]
    simp; omega
  | succ f ih =>
    intro k s h hs
    by_cases hc : ctn l s < l.length
    · have h1 := ctn_le l s
      have h2 := (edw_pos (l.drop (ctn l s))).1
      have h3 : s < nxt l (ctn l s) := by unfold nxt; omega
      have h4 := nxt_len hc
      obtain ⟨i1, i2, i3⟩ := ih (k + 1) (nxt l (ctn l s)) (by omega) h4
      rw [lnR_cons hc]
      refine ⟨?_, ?_, rfl⟩
      · rw [List.map_cons, List.pairwise_cons]
        exact ⟨fun q hq => by have := (i2 q hq).1; show s < q; omega, i1⟩
      · intro q hq
        rw [List.map_cons] at hq
        rcases List.mem_cons.1 hq with rfl | hq
        · exact ⟨Nat.le_refl _, hs⟩
        · have := i2 q hq; omega
    · rw [lnR_last hc]
      simp; omega
def staL (l : List Int) : List Nat := (LN l).map fun e => e.2.1
theorem staL_len (l : List Int) : (staL l).length = (LN l).length := by simp [staL]
/-- a text's cuts behind its line ends -/
def cutN (l : List Int) : List Nat := if (staL l).getD ((staL l).length - 1) 0 < l.length then staL l ++ [l.length] else staL l
theorem cutN_ok (l : List Int) : OkCut l (cutN l) := by
  obtain ⟨h1, h2, h3⟩ := starts_up (l := l) l.length 0 0 (by omega) (Nat.zero_le _)
  have hp := LN_pos l
  have hl := staL_len l
  have e0 : ((lnR l 0 0).map fun e => e.2.1) = staL l := rfl
  rw [e0] at h1 h2 h3
  have hlast : (staL l).getLast? = some ((staL l).getD ((staL l).length - 1) 0) := by
    rw [List.getLast?_eq_getElem?]
    simp [List.getD, List.getElem?_eq_getElem (show (staL l).length - 1 < (staL l).length by omega)]
  have hm : (staL l).getD ((staL l).length - 1) 0 ∈ staL l := List.mem_of_getLast? hlast
  unfold cutN
  split
  · rename_i g
    refine ⟨?_, by simp, ?_⟩
    · cases hs : staL l with
      | nil => rw [hs] at hl; simp at hl; omega
      | cons a r => rw [hs] at h3; simpa using h3
    · rw [List.pairwise_append]
      refine ⟨h1, by simp, fun a ha b hb => ?_⟩
      simp at hb; subst hb
      obtain ⟨i, hi, rfl⟩ := List.mem_iff_getElem.1 ha
      have h5 := List.pairwise_iff_getElem.1 h1 i ((staL l).length - 1) hi (by omega)
      have h6 : (staL l).getD ((staL l).length - 1) 0 = (staL l)[(staL l).length - 1]'(by omega) := by simp [List.getD, List.getElem?_eq_getElem (show (staL l).length - 1 < (staL l).length by omega)]
      rw [h6] at g
      by_cases e : i = (staL l).length - 1
      · subst e; exact g
      · exact Nat.lt_trans (h5 (by omega)) g
  · rename_i g
    refine ⟨h3, ?_, h1⟩
    rw [hlast]
    have := (h2 _ hm).2
    congr 1; omega
theorem stsV_ints (l : List Int) : stsV (LN l) = intsN (staL l) := by simp [stsV, intsN, staL]
set_option maxRecDepth 100000 in
set_option maxHeartbeats 4000000 in
theorem lineCuts_at (a0 : Option Addr) (cap : Nat) (l : List Int) (w : World) (hB : IsB w a0 cap l) (hl : l.length ≤ 1048576) :
    Calls Tryd.prog 31 #[.slice a0 l.length cap] w fun y w' => ∃ a' n' c', y = .returned (.tuple #[.slice a' n' c', .bool (decide ((cutN l).length ≤ 2049))]) ∧ Below w.heap.size w w' ∧
      ((cutN l).length ≤ 2049 → n' = (cutN l).length ∧ IsI w' a' (cutN l) ∧ (cutN l).length ≤ c') := by
  have hp := LN_pos l
  have hsl := staL_len l
  have HC1 := hide (Line_at a0 cap l 2049 w hB)
  by_cases hk : 2049 < (LN l).length
  · have hno : ¬ (cutN l).length ≤ 2049 := by unfold cutN; split <;> first | (rw [List.length_append, List.length_singleton]; omega) | omega
    rw [decide_eq_false hno]
    have hn : nbr l 2049 = some ((LN l).getD 2049 z4) := by unfold nbr; rw [if_pos (by omega)]; rfl
    rw [hn] at HC1
    unfold liV at HC1
    dsimp only at HC1
    generalize (LN l).getD 2049 z4 = e at *
    have HN := hide hno
    clear hno hn hk
    go_enter Tryd.func31, Tryd.ntmps31
    go_wp2_with fail
    refine (unhide HC1).mono ?_
    rintro y w1 ⟨rfl, hb⟩
    dsimp only
    clear HC1
    go_wp2_with fail
    exact bodyPost_ret (results_tmp2 rfl _ _ _) rfl ⟨none, 0, 0, rfl, hb, fun h => absurd h (unhide HN)⟩
  have hn : nbr l 2049 = none := by unfold nbr; rw [if_neg (by omega)]
  rw [hn] at HC1
  unfold liV at HC1
  dsimp only at HC1
  have hcl : (cutN l).length ≤ (LN l).length + 1 := by unfold cutN; split <;> first | (rw [List.length_append, List.length_singleton]; omega) | omega
  go_enter Tryd.func31, Tryd.ntmps31
  go_wp2_with fail
  refine (unhide HC1).mono ?_
  rintro y w1 ⟨rfl, hb1⟩
  dsimp only
  have HC2 := hide (Starts_at a0 cap l w1 (hB.below hb1 (Nat.le_refl _)) hl)
  clear HC1 hn
  go_wp2_with fail
  refine (unhide HC2).mono ?_
  rintro y w2 ⟨v, rfl, ho, hb2⟩
  dsimp only
  rw [stsV_ints, ← hsl] at ho
  obtain ⟨a1, c1, rfl, hi, hc1⟩ := own_isI ho
  have HB := hide (hb1.trans (hb2.mono hb1.size))
  have hbz := hb1.size
  have hb2' := hb2.size
  obtain ⟨m, hm⟩ : ∃ m, (staL l).length = m + 1 := ⟨(staL l).length - 1, by omega⟩
  obtain ⟨g, off, rfl, hg, cx⟩ := hi.at (k := m) (by omega)
  have cm := cx m (by omega)
  have HO := hide ho
  have HI := hide hi
  have e1 : wrap64 (((m + 1 : Nat) : Int) - 1) = (m : Int) := by unfold wrap64; omega
  have HCL : Hid (cutN l = if (staL l).getD m 0 < l.length then staL l ++ [l.length] else staL l) := hide (by unfold cutN; rw [hm, Nat.add_sub_cancel])
  have HM := hide hm
  clear HC2 ho hi cx hb1 hb2
  rw [hm]
  generalize (staL l).getD m 0 = q at *
  have f1 : (m : Int) < ((m + 1 : Nat) : Int) := by clear e1; omega
  have t0 : (((m + 1 : Nat) : Int) - 1) = (m : Int) := by clear e1; omega
  by_cases hq : q < l.length
  · have t1 : decide ((q : Int) < (l.length : Int)) = true := decide_eq_true (by clear e1; omega)
    have HCQ : cutN l = staL l ++ [l.length] := by rw [unhide HCL, if_pos hq]
    obtain ⟨g', c2, W', r1, o1, y1⟩ := push_intS w2 w1.heap.size (staL l).length (.slice (some ⟨g, off, none⟩) (staL l).length c1) (intsN (staL l)) (l.length : Int) 60 (unhide HO) (by clear e1; omega) hb2'
    rw [hm] at r1
    have R1 := hide r1
    have o2 : W'.ownsRow w1.heap.size 3 1 (.slice (some ⟨g', 0, none⟩) (m + 1 + 1) c2) (staL l ++ [l.length]).length (intsN (staL l ++ [l.length])) := by
      rw [intsN_snoc, List.length_append, List.length_singleton, hm]
      rw [hm] at o1
      exact o1
    have HO2 := hide o2
    have HB2 := hide ((unhide HB).trans (y1.mono hbz))
    clear r1 o1 o2 y1 HO HI HCL
    go_wp2_with (at_builtin; refine wpList_append_known rfl _ _ 60 60 rfl _ _ rfl rfl _ _ (unhide R1) ?_; clear R1)
    obtain ⟨a3, c3, e3, i3, l3⟩ := own_isI (unhide HO2)
    injection e3 with e4 e5 e6
    subst e4 e6
    have hlen : (cutN l).length = m + 1 + 1 := by rw [HCQ, ← e5]
    have hd : decide ((m : Int) + 1 ≤ 2048) = decide ((cutN l).length ≤ 2049) := by rw [hlen, decide_eq_decide]; clear e1; omega
    refine bodyPost_ret (results_tmp2 rfl _ _ _) rfl ⟨some ⟨g', 0, none⟩, m + 1 + 1, c2, ?_, unhide HB2, fun _ => ⟨hlen.symm, by rw [HCQ]; exact i3, by rw [HCQ]; exact l3⟩⟩
    rw [← hd]
    rfl
  · have t1 : decide ((q : Int) < (l.length : Int)) = false := decide_eq_false (by clear e1; omega)
    have HCQ : cutN l = staL l := by rw [unhide HCL, if_neg hq]
    have hlen : (cutN l).length = m + 1 := by rw [HCQ, hm]
    clear HO HCL
    go_wp2_with fail
    have hd : decide ((m : Int) ≤ 2048) = decide ((cutN l).length ≤ 2049) := by rw [hlen, decide_eq_decide]; clear e1; omega
    refine bodyPost_ret (results_tmp2 rfl _ _ _) rfl ⟨some ⟨g, off, none⟩, m + 1, c1, ?_, unhide HB, fun _ => ⟨hlen.symm, by rw [HCQ]; exact unhide HI, by rw [HCQ]; exact hc1⟩⟩
    rw [← hd]
    rfl
end Go.Proofs.YtkdnanlgkedjgabDoor
end
