/- Layer 13: Changes. -/
import Derived.Test.YtifpjdodignflaaMg30
import Derived.Test.YtifpjdodignflaaMg25

namespace Go.Proofs.Ytifpjdodignflaa
open Go.ChangeShapes Go.WideShapes Go.ChangeAt Go.RowKit
attribute [local go_sem] Oper.semAt_some

theorem upL_len (f : Dop → Dop) (l : List Dop) : (upL f l).length = l.length := by
  by_cases h : l = []
  · subst h; rfl
  · obtain ⟨e, x, rfl⟩ := list_snoc h; rw [upL_snoc]; simp
theorem her_len (m : Nat) (cs : List Dop) : (herL m cs).length ≤ cs.length + 1 := by unfold herL; split <;> simp
theorem stL_len (s : Nat × List Dop) (o : Dop) : (stL s o).2.length ≤ s.2.length + 1 := by
  unfold stL
  split
  · simp
  · split
    · simp only [upL_len]; exact her_len _ _
    · simp only [upL_len]; exact her_len _ _
theorem runL_len (d : List Dop) : ∀ k, k ≤ d.length → (runL (d.take k)).2.length ≤ k
  | 0, _ => by simp [runL]
  | k + 1, hk => by
    rw [runL_take d (by omega)]
    have := stL_len (runL (d.take k)) (d.getD k opZ)
    have := runL_len d k (by omega)
    omega
theorem runL_at {d : List Dop} (hv : valB d = true) : ∀ k, k ≤ d.length → (runL (d.take k)).1 = frD (d.take k)
  | 0, _ => by simp [runL, frD]
  | k + 1, hk => by
    rw [runL_take d (by omega), frD_take d (by omega), ← runL_at hv k (by omega)]
    have hx := valB_op hv (getD_memD (d := d) (k := k) (by omega))
    generalize d.getD k opZ = x at *
    unfold stL frN
    rcases hx with ⟨h1 | h1, _, _⟩ | ⟨h1, _, _⟩ <;> simp [h1]
theorem val_len {d : List Dop} (hv : valB d = true) : d.length ≤ 536870912 := by
  have h1 := can_len (d := d) (fun o ho => by
    rcases valB_op hv ho with ⟨h1, h2, h3⟩ | ⟨h1, h2, h3⟩
    · exact .inl ⟨h1, h2, h3⟩
    · exact .inr ⟨h1, h2, h3⟩)
  have h2 := dA_len (valB_k hv)
  have h3 := (valB_nn hv).2
  omega
set_option maxRecDepth 100000 in
theorem each_l (a : Option Addr) (c B g : Nat) (d : List Dop) (X : World) (hO : ∀ Y, Below B X Y → IsO Y a d) (v : Value) (hX : IsLv B X X g 0 v []) (hl : d.length ≤ 4611686018427387904) (hv : valB d = true) :
    Calls Try.prog 63 #[.slice a d.length c, .func (.func 92) #[.pointer (some ⟨g, 0, none⟩)] #[], .func (.func 93) #[.pointer (some ⟨g, 0, none⟩)] #[], .func (.func 94) #[.pointer (some ⟨g, 0, none⟩)] #[]] X
      fun y X' => y = .returned (.tuple #[]) ∧ ∃ v', IsLv B X X' g (runL d).1 v' (runL d).2 := by
  have hz := (valB_nn hv).2
  have hdl := val_len hv
  have := each_at a c B d X 92 93 94 (.pointer (some ⟨g, 0, none⟩))
    (fun k Y => ∃ v', IsLv B X Y g (runL (d.take k)).1 v' (runL (d.take k)).2)
    (enters_of Try.func92 (by kernel_rfl) rfl) (enters_of Try.func93 (by kernel_rfl) rfl) (enters_of Try.func94 (by kernel_rfl) rfl)
    hO (fun k Y ⟨_, hY⟩ => hY.d) (fun k Y o ⟨v', hY⟩ => ⟨v', hY.on ((Below.refl _ _).alloc (Nat.le_refl _) o)⟩) ⟨v, hX⟩ hl
    (fun k Y hlt h1 ⟨v', hY⟩ => by
      have hx := valB_op hv (getD_memD hlt)
      have e0 := runL_at hv k (by omega)
      have e1 := frD_take d hlt
      have e3 := frD_le d (k + 1)
      rw [runL_take d hlt]
      generalize runL (d.take k) = s at *
      generalize d.getD k opZ = x at *
      obtain ⟨xk, xn, xt⟩ := x
      dsimp only at hx h1
      subst h1
      rcases hx with ⟨_, hn, rfl⟩ | ⟨h2, _⟩
      · obtain ⟨m, rfl⟩ : ∃ m : Nat, xn = (m : Int) := ⟨xn.toNat, by omega⟩
        simp [frN] at e1
        refine (lkeep_at B X Y g s.1 m v' s.2 hY (by omega)).mono fun y Z ⟨e, hZ⟩ => ⟨e, v', ?_⟩
        simp only [stL, if_true, Int.toNat_natCast]
        exact hZ
      · omega)
    (fun k Y hlt h1 ⟨v', hY⟩ => by
      have hln := runL_len d k (by omega)
      have hx := valB_op hv (getD_memD hlt)
      rw [runL_take d hlt]
      generalize runL (d.take k) = s at *
      generalize d.getD k opZ = x at *
      obtain ⟨xk, xn, xt⟩ := x
      dsimp only at hx h1
      subst h1
      refine (lput_at B X Y g s.1 v' s.2 xt hY (by omega)).mono fun y Z ⟨e, v2, hZ⟩ => ⟨e, v2, ?_⟩
      simp only [stL, show ¬ ((2 : Int) = 1) by decide, if_false, if_true]
      exact hZ)
    (fun k Y hlt h1 ⟨v', hY⟩ => by
      have hln := runL_len d k (by omega)
      have hx := valB_op hv (getD_memD hlt)
      have e0 := runL_at hv k (by omega)
      have e1 := frD_take d hlt
      have e3 := frD_le d (k + 1)
      rw [runL_take d hlt]
      generalize runL (d.take k) = s at *
      generalize d.getD k opZ = x at *
      obtain ⟨xk, xn, xt⟩ := x
      dsimp only at hx h1
      subst h1
      rcases hx with ⟨_, hn, rfl⟩ | ⟨h2, _⟩
      · obtain ⟨m, rfl⟩ : ∃ m : Nat, xn = (m : Int) := ⟨xn.toNat, by omega⟩
        simp [frN] at e1
        refine (ldrop_at B X Y g s.1 m v' s.2 hY (by omega) (by omega)).mono fun y Z ⟨e, v2, hZ⟩ => ⟨e, v2, ?_⟩
        simp only [stL, show ¬ ((3 : Int) = 1) by decide, show ¬ ((3 : Int) = 2) by decide, if_false, Int.toNat_natCast]
        exact hZ
      · omega)
    (fun k Y hlt h1 h2 h3 _ => by rcases valB_k hv _ (getD_memD hlt) with h | h | h <;> contradiction)
  rw [List.take_length] at this
  exact this
/-- what Changes answers -/
def chD (d : List Dop) : List Dop × Int := if valB d then ((runL d).2, 0) else ([], 130)
set_option maxRecDepth 100000 in
set_option maxHeartbeats 1000000 in
theorem Changes_at (a : Option Addr) (c : Nat) (d : List Dop) (w : World) (h : IsO w a d) (hl : d.length ≤ 4611686018427387904) :
    Calls Try.prog 67 #[.slice a d.length c] w fun y w' => ∃ v, y = .returned (.tuple #[v, .int .i64 (chD d).2]) ∧ w'.ownsRow w.heap.size 113 3 v (chD d).1.length (opsV (chD d).1) ∧ Below w.heap.size w w' := by
  have HV := hide (Valid_atD a c d w h hl)
  cases hv : valB d with
  | false =>
    rw [hv] at HV
    unfold chD
    rw [hv]
    simp only [Bool.false_eq_true, if_false]
    clear hv h hl
    go_enter Try.func67, Try.ntmps67
    go_wp2_with fail
    refine (unhide HV).mono ?_
    rintro y w1 ⟨rfl, x1⟩
    dsimp only
    clear HV
    go_wp2_with fail
    refine bodyPost_ret (results_tmp2 rfl _ _ _) rfl ⟨.slice none 0 0, rfl, World.ownsRow_nil _ _ _ _, x1⟩
  | true =>
    rw [hv] at HV
    unfold chD
    rw [hv]
    simp only [if_true]
    go_enter Try.func67, Try.ntmps67
    go_wp2_with fail
    refine (unhide HV).mono ?_
    rintro y w1 ⟨rfl, x1⟩
    dsimp only
    have hW : IsLv w.heap.size (w1.alloc (.cells #[.int .i64 0, .slice none 0 0] 144)) (w1.alloc (.cells #[.int .i64 0, .slice none 0 0] 144)) w1.heap.size 0 (.slice none 0 0) [] :=
      ⟨Cls.new _ _ _, World.ownsRow_nil _ _ _ _, Below.refl _ _, x1.size, by have := x1.size; simp; omega⟩
    have HE := hide (each_l a c w.heap.size w1.heap.size d _ (fun Y hY => h.below ((x1.alloc x1.size _).trans hY) (Nat.le_refl _)) _ hW hl hv)
    have HX := hide (x1.alloc x1.size (.cells #[.int .i64 0, .slice none 0 0] 144))
    clear HV hW h hl hv x1
    go_upto_region 4 with fail
    generalize w1.alloc (.cells #[.int .i64 0, .slice none 0 0] 144) = w4 at *
    generalize w1.heap.size = g at *
    go_wp2_with fail
    refine (unhide HE).mono ?_
    rintro y w5 ⟨rfl, v5, h5⟩
    dsimp only
    have e1 : w5.cell? ⟨g, 1, none⟩ = some v5 := h5.a.cell 1
    have HOw := hide h5.r
    have HXX := hide ((unhide HX).trans h5.d)
    clear HE h5 HX
    go_wp2_with fail
    refine bodyPost_ret (results_tmp2 rfl _ _ _) rfl ⟨_, rfl, unhide HOw, unhide HXX⟩

end Go.Proofs.Ytifpjdodignflaa
