/- Layer 14: moved. -/
import Derived.Test.YtifpjdodignflaaMg40

namespace Go.Proofs.Ytifpjdodignflaa
open Go.ChangeShapes Go.WideShapes Go.ChangeAt Go.RowKit
attribute [local go_sem] Oper.semAt_some

/-- where a place is behind changes; s: what the text has grown by ahead of them -/
def mvC (p g : Int) : Int → List Dop → Int
  | s, [] => p + s
  | s, c :: r => if p < c.k then p + s else if p ≤ c.n then (if g = 1 then c.k + s else c.k + s + (c.t.length : Int)) else mvC p g (s + ((c.t.length : Int) - (c.n - c.k))) r
structure MvK (cs : List Dop) : Prop where
  b : ∀ k, k < cs.length → 0 ≤ (cs.getD k opZ).k ∧ (cs.getD k opZ).k ≤ (cs.getD k opZ).n ∧ (cs.getD k opZ).n ≤ 268435456 ∧ (cs.getD k opZ).t.length ≤ 536870912
  s : ∀ k, k ≤ cs.length → -1073741824 ≤ dlC (cs.take k) ∧ dlC (cs.take k) ≤ 1073741824
  l : cs.length ≤ 1073741824
theorem drop_getD {cs : List Dop} {k : Nat} (hk : k < cs.length) : cs.drop k = cs.getD k opZ :: cs.drop (k + 1) := by
  rw [List.drop_eq_getElem_cons hk]; simp [List.getD, List.getElem?_eq_getElem hk]
set_option maxRecDepth 100000 in
set_option maxHeartbeats 4000000 in
theorem moved_at (a : Option Addr) (c : Nat) (cs : List Dop) (p g : Int) (w : World) (h : IsO w a cs) (hk : MvK cs) (hp : 0 ≤ p ∧ p ≤ 268435456) :
    Calls Try.prog 68 #[.slice a cs.length c, .int .i64 p, .int .i64 g] w fun y w' => y = .returned (.int .i64 (mvC p g 0 cs)) ∧ Below w.heap.size w w' := by
  have HO := hide fun (X : World) (hx : Below w.heap.size w X) => h.below hx (Nat.le_refl _)
  have HK := hide hk
  have hll := hk.l
  obtain ⟨V, hV⟩ : ∃ V, V = mvC p g 0 cs := ⟨_, rfl⟩
  rw [← hV]
  have HV := hide hV
  clear h hk hV
  go_enter Try.func68, Try.ntmps68
  go_wp2_with fail
  go_loopw [7, 9, 12] (fun v7 v9 v12 wx => (∃ z, v9 = z) ∧ ∃ (k : Nat) (s : Int), v12 = .int .i64 (k : Int) ∧ v7 = .int .i64 s ∧ k ≤ cs.length ∧ Hid (s = dlC (cs.take k) ∧ Below w.heap.size w wx ∧ V = mvC p g s (cs.drop k))) (fun _ _ v12 _ => cs.length - (intOf v12).toNat)
  case atStart => exact ⟨⟨_, rfl⟩, ⟨0, 0, rfl, rfl, Nat.zero_le _, hide ⟨by simp [dlC], Below.refl _ _, by rw [unhide HV]; rfl⟩⟩⟩
  case round =>
    clear HV
    obtain ⟨⟨z1, rfl⟩, ⟨k, s, rfl, rfl, hk, HI⟩⟩ := hrel
    have hsb := (unhide HK).s k hk
    rw [← (unhide HI).1] at hsb
    by_cases hlt : k < cs.length
    · have t1 : decide ((k : Int) < (cs.length : Int)) = true := decide_eq_true (by omega)
      obtain ⟨ga, off, hga, _, c0', c1', c2'⟩ := (unhide HO wr (unhide HI).2.1).three hlt
      have hbx := (unhide HK).b k hlt
      have hs2 := (unhide HK).s (k + 1) hlt
      have hV := (unhide HI).2.2
      rw [drop_getD hlt] at hV
      have e1 := dlC_take cs k hlt
      rw [← (unhide HI).1] at e1
      have HBW := hide (unhide HI).2.1
      clear HI hk
      subst hga
      generalize cs.getD k opZ = q at *
      obtain ⟨xk, xn, xt⟩ := q
      dsimp only at c0' c1' c2' hbx e1
      have hsz := strOfNums_size xt
      have HBN := hide ((unhide HBW).alloc (unhide HBW).size (.cells #[.int .i64 xk, .int .i64 xn, .string (strOfNums xt)] 113))
      obtain ⟨d0, d1, d2⟩ := three_nwD wr (.int .i64 xk) (.int .i64 xn) (.string (strOfNums xt)) (t := 113)
      simp only [mvC] at hV
      clear HBW
      go_upto_region 5 with fail
      clear c0' c1' c2' t1
      generalize wr.alloc (.cells #[.int .i64 xk, .int .i64 xn, .string (strOfNums xt)] 113) = v0 at *
      generalize wr.heap.size = gb at *
      generalize strOfNums xt = st at *
      generalize xt.length = L at *
      by_cases h1 : p < xk
      · have t1 : decide (p < xk) = true := decide_eq_true h1
        rw [if_pos h1] at hV
        have w1 : wrap64 (p + s) = V := by rw [wrapD _ (by omega) (by omega), hV]
        clear hV hbx hs2 e1 hsz hsb h1
        go_wp2_with fail
        try rw [w1]
        refine bodyPost_ret (results_tmp rfl _ _ _) rfl ⟨rfl, unhide HBN⟩
      · have t1 : decide (p < xk) = false := decide_eq_false h1
        rw [if_neg h1] at hV
        by_cases h2 : p ≤ xn
        · have t2 : decide (p ≤ xn) = true := decide_eq_true h2
          rw [if_pos h2] at hV
          by_cases h3 : g = 1
          · subst h3
            rw [if_pos rfl] at hV
            have w1 : wrap64 (xk + s) = V := by rw [wrapD _ (by omega) (by omega), hV]
            clear hV hbx hs2 e1 hsz hsb h1 h2
            go_wp2_with fail
            try rw [w1]
            refine bodyPost_ret (results_tmp rfl _ _ _) rfl ⟨rfl, unhide HBN⟩
          · have t3 : (g == 1) = false := by simpa using h3
            rw [if_neg h3] at hV
            have w1 : wrap64 (xk + s) = xk + s := wrapD _ (by omega) (by omega)
            have w2 : wrap64 (xk + s + (L : Int)) = V := by rw [wrapD _ (by omega) (by omega), hV]
            clear hV hbx hs2 e1 hsb h1 h2
            go_wp2_with fail
            try rw [w1, w2]
            refine bodyPost_ret (results_tmp rfl _ _ _) rfl ⟨rfl, unhide HBN⟩
        · have t2 : decide (p ≤ xn) = false := decide_eq_false h2
          rw [if_neg h2] at hV
          have w1 : wrap64 (xn - xk) = xn - xk := wrapD _ (by omega) (by omega)
          have w2 : wrap64 ((L : Int) - (xn - xk)) = (L : Int) - (xn - xk) := wrapD _ (by omega) (by omega)
          have w3 : wrap64 (s + ((L : Int) - (xn - xk))) = s + ((L : Int) - (xn - xk)) := wrapD _ (by omega) (by omega)
          have HN := hide (And.intro e1.symm (And.intro (unhide HBN) hV))
          clear hV hbx hs2 e1 hsb h1 h2
          go_wp2_with fail
          go_roundw
          case rel => exact ⟨⟨_, rfl⟩, ⟨k + 1, s + ((L : Int) - (xn - xk)), by go_num, by first | rfl | rw [w3] | rw [w1, w2, w3], hlt, HN⟩⟩
          case measure => simp [intOf]; omega
    · obtain rfl : k = cs.length := by omega
      have t1 : decide ((cs.length : Int) < (cs.length : Int)) = false := by simp
      have hV := (unhide HI).2.2
      rw [List.drop_length] at hV
      simp only [mvC] at hV
      have w1 : wrap64 (p + s) = V := by rw [wrapD _ (by omega) (by omega), hV]
      have HBW := hide (unhide HI).2.1
      clear HI hV hsb hlt hk
      go_wp2_with fail
      try rw [w1]
      refine bodyPost_ret (results_tmp rfl _ _ _) rfl ⟨rfl, unhide HBW⟩

end Go.Proofs.Ytifpjdodignflaa
