/- Layer 13: Apply. -/
import Derived.Test.YtkmbkoajbmlgaaaMg25
import Derived.Test.YtkmbkoajbmlgaaaMg19

namespace Go.Proofs.Ytkmbkoajbmlgaaa
open Go.ChangeShapes Go.WideShapes Go.ChangeAt Go.RowKit
attribute [local go_sem] Oper.semAt_some

theorem make_u8D (w : World) (c : Nat) (hc : c ≤ 70368744177664) : ∃ w', (Instr.makeSlice 22 (.int .i64 0) (.int .i64 (c : Int))).run Try.prog w = .ok (.slice (some ⟨w.heap.size, 0, none⟩) 0 c) w' ∧ Own w' w.heap.size (.slice (some ⟨w.heap.size, 0, none⟩) 0 c) [] ∧ Below w.heap.size w w' := by
  obtain ⟨i, hi, hz, hs, hby⟩ := info_u8
  obtain ⟨w', h1, h2, h3⟩ := run_make_own (P := Try.prog) w w.heap.size 22 5 i (.int .u8 0) 1 Try.underlying22 hi hz hs .i64 .i64 c (by rw [hby]; omega) (by unfold maxLen; omega) (Nat.le_refl _)
  exact ⟨w', h1, h2, (Below.refl _ w).grown h3 (Nat.le_refl _) (fun k e => by cases e)⟩
set_option maxRecDepth 100000 in
theorem fldZ (a b : Value) (w : World) : (Instr.field 82 (.agg #[a, b]) 1).run Try.prog w = .ok b w := by kernel_rfl
attribute [local go_sem] fldZ
/-- what waits, and what is written, behind one operation more -/
def stW (s : List Int × List Int) (o : Dop) : List Int × List Int := if o.k = 1 then (s.1.drop o.n.toNat, s.2 ++ s.1.take o.n.toNat) else if o.k = 2 then (s.1, s.2 ++ o.t) else (s.1.drop o.n.toNat, s.2)
def runW (b : List Int) (d : List Dop) : List Int × List Int := d.foldl stW (b, [])
def apD (b : List Int) (d : List Dop) : List Int := (runW b d).2
theorem runW_take (b : List Int) (d : List Dop) {k : Nat} (hk : k < d.length) : runW b (d.take (k + 1)) = stW (runW b (d.take k)) (d.getD k opZ) := by
  unfold runW
  rw [List.take_add_one, List.getElem?_eq_getElem hk, Option.toList_some, List.foldl_append]
  simp [List.getD_eq_getElem?_getD, List.getElem?_eq_getElem hk]
/-- lengths, while the delta fits -/
theorem runW_len {b : List Int} {d : List Dop} (hv : valB d = true) (hf : frD d = b.length) : ∀ k, k ≤ d.length → (runW b (d.take k)).1.length + frD (d.take k) = b.length ∧ (runW b (d.take k)).2.length = toD (d.take k)
  | 0, _ => by simp [runW, frD, toD]
  | k + 1, hk => by
    have ih := runW_len hv hf k (by omega)
    have hx := valB_op hv (getD_memD (d := d) (k := k) (by omega))
    have e1 := frD_take d (k := k) (by omega)
    have e2 := toD_take d (k := k) (by omega)
    have e3 := (frD_le d (k + 1)).1
    rw [runW_take b d (by omega)]
    generalize runW b (d.take k) = s at *
    generalize d.getD k opZ = x at *
    obtain ⟨xk, xn, xt⟩ := x
    dsimp only at hx
    rcases hx with ⟨rfl | rfl, hn, rfl⟩ | ⟨rfl, rfl, hn⟩
    · simp [stW, frN, toN] at e1 e2 ⊢; omega
    · simp [stW, frN, toN] at e1 e2 ⊢; omega
    · simp [stW, frN, toN] at e1 e2 ⊢; omega
theorem ap_len {b : List Int} {d : List Dop} (hv : valB d = true) (hf : frD d = b.length) : (apD b d).length = toD d := by
  have := (runW_len hv hf d.length (Nat.le_refl _)).2
  rwa [List.take_length] at this
theorem each_w (a : Option Addr) (c g : Nat) (d : List Dop) (b : List Int) (w X : World) (hO : ∀ Y, Below w.heap.size w Y → IsO Y a d) (hX : IsW w X g b []) (hl : d.length ≤ 4611686018427387904) (hv : valB d = true) (hf : frD d = b.length) (hb : ∀ o ∈ d, TbD o) :
    Calls Try.prog 46 #[.slice a d.length c, .func (.func 47) #[.pointer (some ⟨g, 0, none⟩)] #[], .func (.func 48) #[.pointer (some ⟨g, 0, none⟩)] #[], .func (.func 49) #[.pointer (some ⟨g, 0, none⟩)] #[]] X
      fun y X' => y = .returned (.tuple #[]) ∧ IsW w X' g (runW b d).1 (apD b d) := by
  have hz := (valB_nn hv).2
  have := each_at a c w.heap.size d X 47 48 49 (.pointer (some ⟨g, 0, none⟩))
    (fun k Y => IsW w Y g (runW b (d.take k)).1 (runW b (d.take k)).2 ∧ Below w.heap.size X Y)
    (enters_of Try.func47 (by kernel_rfl) rfl) (enters_of Try.func48 (by kernel_rfl) rfl) (enters_of Try.func49 (by kernel_rfl) rfl)
    (fun Y hY => hO Y (hX.d.trans hY)) (fun k Y hY => hY.2) (fun k Y o hY => ⟨hY.1.on ((Below.refl _ _).alloc (Nat.le_refl _) o), hY.2.alloc (Nat.le_trans hX.d.size hY.2.size) o⟩) ⟨hX, Below.refl _ _⟩ hl
    (fun k Y hlt h1 hY => by
      have hx := valB_op hv (getD_memD hlt)
      have hlen := runW_len hv hf k (by omega)
      have e1 := frD_take d hlt
      have e2 := toD_take d hlt
      have e3 := frD_le d (k + 1)
      have htb := hb _ (getD_memD hlt)
      rw [runW_take b d hlt]
      generalize runW b (d.take k) = s at *
      generalize d.getD k opZ = x at *
      obtain ⟨xk, xn, xt⟩ := x
      dsimp only at hx h1
      subst h1
      rcases hx with ⟨_, hn, rfl⟩ | ⟨h2, _⟩
      · obtain ⟨m, rfl⟩ : ∃ m : Nat, xn = (m : Int) := ⟨xn.toNat, by omega⟩
        simp [frN, toN] at e1 e2
        refine (wkeep_at w Y g s.1 s.2 m hY.1 (by omega) (by omega)).mono fun y Z ⟨e, hZ, hW⟩ => ⟨e, ?_, hY.2.trans hW⟩
        simp only [stW, if_true, Int.toNat_natCast]
        exact hZ
      · omega)
    (fun k Y hlt h1 hY => by
      have hx := valB_op hv (getD_memD hlt)
      have hlen := runW_len hv hf k (by omega)
      have e1 := frD_take d hlt
      have e2 := toD_take d hlt
      have e3 := frD_le d (k + 1)
      have htb := hb _ (getD_memD hlt)
      rw [runW_take b d hlt]
      generalize runW b (d.take k) = s at *
      generalize d.getD k opZ = x at *
      obtain ⟨xk, xn, xt⟩ := x
      dsimp only at hx h1
      subst h1
      rcases hx with ⟨h2, _⟩ | ⟨_, hn, hne⟩
      · omega
      · simp [frN, toN] at e1 e2
        refine (wput_at w Y g s.1 s.2 xt hY.1 htb (by omega)).mono fun y Z ⟨e, hZ, hW⟩ => ⟨e, ?_, hY.2.trans hW⟩
        simp only [stW, show ¬ ((2 : Int) = 1) by decide, if_false, if_true]
        exact hZ)
    (fun k Y hlt h1 hY => by
      have hx := valB_op hv (getD_memD hlt)
      have hlen := runW_len hv hf k (by omega)
      have e1 := frD_take d hlt
      have e2 := toD_take d hlt
      have e3 := frD_le d (k + 1)
      have htb := hb _ (getD_memD hlt)
      rw [runW_take b d hlt]
      generalize runW b (d.take k) = s at *
      generalize d.getD k opZ = x at *
      obtain ⟨xk, xn, xt⟩ := x
      dsimp only at hx h1
      subst h1
      rcases hx with ⟨_, hn, rfl⟩ | ⟨h2, _⟩
      · obtain ⟨m, rfl⟩ : ∃ m : Nat, xn = (m : Int) := ⟨xn.toNat, by omega⟩
        simp [frN, toN] at e1 e2
        refine (wdrop_at w Y g s.1 s.2 m hY.1 (by omega)).mono fun y Z ⟨e, hZ, hW⟩ => ⟨e, ?_, hY.2.trans hW⟩
        simp only [stW, show ¬ ((3 : Int) = 1) by decide, show ¬ ((3 : Int) = 2) by decide, if_false, Int.toNat_natCast]
        exact hZ
      · omega)
    (fun k Y hlt h1 h2 h3 _ => by rcases valB_k hv _ (getD_memD hlt) with h | h | h <;> contradiction)
  rw [List.take_length] at this
  exact this.mono fun y Y ⟨e, hY, _⟩ => ⟨e, hY⟩
set_option maxRecDepth 100000 in
set_option maxHeartbeats 1000000 in
theorem Apply_at (a0 : Option Addr) (c0 : Nat) (b : List Int) (a : Option Addr) (c : Nat) (d : List Dop) (w : World) (hb : IsB w a0 c0 b) (h : IsO w a d) (hl : d.length ≤ 4611686018427387904) (ht : ∀ o ∈ d, TbD o) :
    Calls Try.prog 14 #[.slice a0 b.length c0, .slice a d.length c] w fun y w' => ∃ v, y = .returned (.tuple #[v, .int .i64 (fitE d b.length)]) ∧ Own w' w.heap.size v (if fitE d b.length = 0 then apD b d else []) ∧ Below w.heap.size w w' := by
  have HF := hide (fits_at a0 b.length c0 a c d w h hl)
  have HM := hide fun (X : World) (hx : Below w.heap.size w X) (hp : valB d = true) => measure_at a c d X (h.below hx (Nat.le_refl _)) hl (valB_nn hp).1
  rcases fit_cases d b.length with ⟨hv, he⟩ | ⟨hv, hf, he, t1, t2⟩ | ⟨hv, hf, he⟩
  · rw [he] at HF ⊢
    rw [if_neg (by decide)]
    clear he hv HM hb h hl ht
    go_enter Try.func14, Try.ntmps14
    go_wp2_with fail
    refine (unhide HF).mono ?_
    rintro y w1 ⟨rfl, x1⟩
    dsimp only
    clear HF
    go_wp2_with fail
    refine bodyPost_ret (results_tmp2 rfl _ _ _) rfl ⟨.slice none 0 0, rfl, World.ownsRow_nil _ _ _ _, x1⟩
  · rw [he] at HF ⊢
    rw [if_neg (by decide)]
    clear he hv HM hb h hl ht t1 t2 hf
    go_enter Try.func14, Try.ntmps14
    go_wp2_with fail
    refine (unhide HF).mono ?_
    rintro y w1 ⟨rfl, x1⟩
    dsimp only
    clear HF
    go_wp2_with fail
    refine bodyPost_ret (results_tmp2 rfl _ _ _) rfl ⟨.slice none 0 0, rfl, World.ownsRow_nil _ _ _ _, x1⟩
  · rw [he] at HF ⊢
    rw [if_pos rfl]
    have HM2 := hide fun (X : World) (hx : Below w.heap.size w X) => unhide HM X hx hv
    rw [show satD (toD d) = toD d by have := (valB_nn hv).2; unfold satD; omega] at HM2
    have hT : toD d ≤ 268435456 := (valB_nn hv).2.2
    have HF2 := hide hf
    clear he HM
    generalize satD (frD d) = F at *
    generalize toD d = T at *
    go_enter Try.func14, Try.ntmps14
    go_wp2_with fail
    refine (unhide HF).mono ?_
    rintro y w1 ⟨rfl, x1⟩
    dsimp only
    have HX1 := hide x1
    have HM3 := hide (unhide HM2 w1 x1)
    clear HF HM2 x1
    go_wp2_with fail
    refine (unhide HM3).mono ?_
    rintro y w2 ⟨rfl, x2⟩
    dsimp only
    clear HM3
    obtain ⟨w3, rm, o3, x3⟩ := make_u8D w2 T (by omega)
    have X2 := (unhide HX1).trans (x2.mono (unhide HX1).size)
    have HX3 := hide (X2.trans (x3.mono X2.size))
    have HO3 : Hid (Own w3 w.heap.size (.slice (some ⟨w2.heap.size, 0, none⟩) 0 T) []) := hide (own_lower o3 X2.size)
    clear HX1 x2 X2 o3 x3
    generalize hg2 : w2.heap.size = g2 at HO3 rm
    clear hg2
    have hW : IsW w (w3.alloc (.cells #[.slice a0 b.length c0, .slice (some ⟨g2, 0, none⟩) 0 T] 85)) w3.heap.size b [] :=
      ⟨⟨a0, c0, g2, T, Cls.new _ _ _, hb, World.ownsRow.alloc (unhide HO3) _⟩, (unhide HX3).alloc (unhide HX3).size _, (unhide HX3).size⟩
    have HE := hide (each_w a c w3.heap.size d b w _ (fun Y hY => h.below hY (Nat.le_refl _)) hW hl hv (unhide HF2) ht)
    clear hW h hb hl ht hv HX3 HO3 hf HF2
    go_upto_region 5 with fail
    clear rm
    generalize w3.alloc (.cells #[.slice a0 b.length c0, .slice (some ⟨g2, 0, none⟩) 0 T] 85) = w4 at *
    generalize w3.heap.size = g at *
    go_wp2_with fail
    refine (unhide HE).mono ?_
    rintro y w5 ⟨rfl, h5⟩
    dsimp only
    obtain ⟨a5, c5, g5, d5, k1, k2, k3⟩ := h5.c
    have e1 : w5.cell? ⟨g, 1, none⟩ = some (.slice (some ⟨g5, 0, none⟩) (apD b d).length d5) := k1.cell 1
    have HOw := hide k3
    have HXX := hide h5.d
    clear HE k1 k2 k3 h5
    go_wp2_with fail
    refine bodyPost_ret (results_tmp2 rfl _ _ _) rfl ⟨_, rfl, unhide HOw, unhide HXX⟩

end Go.Proofs.Ytkmbkoajbmlgaaa
