/- Layer 6: contracts of rule's Size and Cut, whatever is asked, and of the law's own. -/
import Derived.Test.YtnkeohiibninfabDoorRut
import Derived.Test.YtnkeohiibninfabDoorBak
import Derived.Deep.CutRange
namespace Go.Proofs.YtnkeohiibninfabDoor
open Go.ChangeShapes Go.WideShapes Go.ChangeAt Go.RowKit

theorem IsB.takeR {w : World} {a0 : Option Addr} {cap : Nat} {l : List Int} {n : Nat} (h : IsB w a0 cap l) : IsB w a0 cap (l.take n) := by
  obtain ⟨h1, h2, h3, h4⟩ := h
  refine ⟨by simp; omega, by simp; omega, ?_, fun x hx => h4 x (List.mem_of_mem_take hx)⟩
  rcases h3 with h3 | ⟨g', off', rfl, hL⟩
  · exact Or.inl (by rw [h3]; simp)
  · exact Or.inr ⟨g', off', rfl, hL.take n⟩
theorem IsB.loR {w : World} {a : Option Addr} {cap : Nat} {l : List Int} {n : Nat} (h : IsB w a cap l) : IsB w (if cap = n then a else a.map (·.add n)) (cap - n) (l.drop n) := by
  obtain ⟨h1, h2, h3, h4⟩ := h
  refine ⟨by simp; omega, by simp; omega, ?_, fun x hx => h4 x (List.mem_of_mem_drop hx)⟩
  rcases Nat.lt_or_ge n l.length with hlt | hge
  · rcases h3 with h3 | ⟨g', off', rfl, hL⟩
    · rw [h3] at hlt; simp at hlt
    · rw [if_neg (by omega)]
      exact Or.inr ⟨g', off' + n, by simp [Addr.add_lit], hL.drop n⟩
  · exact Or.inl (by simp; omega)

theorem own_at (a0 : Option Addr) (cap : Nat) (l : List Int) (w : World) (hB : IsB w a0 cap l) :
    Calls Tryd.prog 11 #[.slice a0 l.length cap] w fun e w' => ∃ a' c', e = .returned (.slice a' l.length c') ∧ IsB w' a' c' l ∧ Below w.heap.size w w' := by
  obtain ⟨a1, c1, w1, r1, x1, y1, z1⟩ := run_copy w a0 cap l 22 hB
  have R1 := hide r1
  clear r1
  go_enter Tryd.func11, Tryd.ntmps11
  go_wp2_with (at_builtin; refine wpList_append_known rfl _ _ 22 22 rfl _ _ rfl rfl _ _ (unhide R1) ?_)
  go_ret
  exact ⟨a1, c1, rfl, ⟨x1, hB.2.1, y1, hB.2.2.2⟩, z1⟩

def szE (r : Int) (l : List Int) : Nat := if isRu r then byE r (stE l (spots l 0)) else 0
def szR (r : Int) : Int := if isRu r then 0 else 3
set_option maxRecDepth 100000 in
theorem Size_at (a0 : Option Addr) (cap : Nat) (l : List Int) (r : Int) (w : World) (hB : IsB w a0 cap l) (hT : Tab w) :
    Calls Tryd.prog 16 #[.slice a0 l.length cap, .int .i64 r] w fun y w' => y = .returned (.tuple #[.int .i64 (szE r l : Int), .int .i64 (szR r)]) ∧ Below w.heap.size w w' := by
  unfold szE szR
  cases hr : isRu r with
  | true => exact Size_in a0 cap l r w hB hT hr
  | false =>
    have k1 := Cls.new w 31 #[.int .i64 r]
    have b1 := (Below.refl w.heap.size w).alloc (Nat.le_refl _) (.cells #[.int .i64 r] 31)
    have c1 := k1.cell 0
    simp only [List.getElem?_toArray, List.getElem?_cons_zero] at c1
    go_enter Tryd.func16, Tryd.ntmps16
    go_wp2_with fail
    refine (isRuler_at r _).mono ?_
    rintro y w1 ⟨rfl, rfl⟩
    rw [hr]
    go_wp2_with fail
    refine bodyPost_ret (results_tmp2 rfl _ _ _) rfl ?_
    exact ⟨rfl, b1⟩

/-- Cut's answer -/
def cuR (r lo hi m : Int) (E : List Ed) : Int := if isRu r && isRu m then (if lo < 0 ∨ hi < lo then 2 else if fdR r hi m E = 0 then fdR r lo m E else fdR r hi m E) else 3
def cuL (r lo hi m : Int) (l : List Int) : List Int := if cuR r lo hi m (EE l) = 0 then (l.take (fdE r hi m (EE l)).1).drop (fdE r lo m (EE l)).1 else []
theorem EE_le {l : List Int} (hl : ∀ x ∈ l, 0 ≤ x ∧ x ≤ 255) {i : Nat} (h : i < (EE l).length) : ((EE l).getD i e0).1 ≤ l.length := by
  rw [EE_len] at h
  unfold EE
  rw [edL_getD _ _ _ (by omega)]
  exact (st_at hl (List.take_prefix _ _)).1
theorem cut_in {l : List Int} (hl : ∀ x ∈ l, 0 ≤ x ∧ x ≤ 255) {r lo hi m : Int} (h : lo ≤ hi) (h1 : fdR r hi m (EE l) = 0) (h2 : fdR r lo m (EE l) = 0) : (fdE r lo m (EE l)).1 ≤ (fdE r hi m (EE l)).1 ∧ (fdE r hi m (EE l)).1 ≤ l.length := by
  obtain ⟨p1, _⟩ := fdR_ok h1
  obtain ⟨p2, _⟩ := fdR_ok h2
  have hE := inc_EE hl r
  have hE1 := inc_EE hl 1
  have s1 := selI_lt (m := m) hE p1
  have hm := sel_mono (m := m) hE h p2 p1
  unfold fdE
  rw [if_pos h1, if_pos h2]
  exact ⟨hE1.le hm s1, EE_le hl s1⟩

set_option maxRecDepth 100000 in
set_option maxHeartbeats 2000000 in
theorem Cut_at (a0 : Option Addr) (cap : Nat) (l : List Int) (r lo hi m : Int) (w : World) (hB : IsB w a0 cap l) (hT : Tab w) :
    Calls Tryd.prog 10 #[.slice a0 l.length cap, .int .i64 r, .int .i64 lo, .int .i64 hi, .int .i64 m] w fun y w' =>
      ∃ a' c', y = .returned (.tuple #[.slice a' (cuL r lo hi m l).length c', .int .i64 (cuR r lo hi m (EE l))]) ∧ IsB w' a' c' (cuL r lo hi m l) ∧ Below w.heap.size w w' := by
  have hf1 := find_at a0 cap l r hi m w hB hT
  have b0 := Below.refl w.heap.size w
  have k1 := isRuler_at r w
  have k2 := isMode_at m w
  have nil : ∀ (y : Ending) (X : World) (e : Int), cuR r lo hi m (EE l) = e → e ≠ 0 → y = .returned (.tuple #[.slice none 0 0, .int .i64 e]) → Below w.heap.size w X →
      ∃ a' c', y = .returned (.tuple #[.slice a' (cuL r lo hi m l).length c', .int .i64 (cuR r lo hi m (EE l))]) ∧ IsB X a' c' (cuL r lo hi m l) ∧ Below w.heap.size w X := by
    rintro y X e h1 h2 rfl hb
    have hc : cuL r lo hi m l = [] := by unfold cuL; rw [h1, if_neg h2]
    rw [hc, h1]
    exact ⟨none, 0, rfl, ⟨Nat.le_refl _, by simp, Or.inl rfl, by simp⟩, hb⟩
  have NIL := hide nil
  clear nil
  cases h1 : isRu r with
  | false =>
    have HC : Hid (cuR r lo hi m (EE l) = 3) := hide (by unfold cuR; rw [h1]; rfl)
    rw [h1] at k1
    go_enter Tryd.func10, Tryd.ntmps10
    go_wp2_with fail
    refine k1.mono ?_
    rintro y w1 ⟨rfl, rfl⟩
    go_wp2_with fail
    refine bodyPost_ret (results_tmp2 rfl _ _ _) rfl ?_
    exact unhide NIL _ _ 3 (unhide HC) (by decide) rfl b0
  | true =>
    rw [h1] at k1
    cases h2 : isRu m with
    | false =>
      have HC : Hid (cuR r lo hi m (EE l) = 3) := hide (by unfold cuR; rw [h1, h2]; rfl)
      rw [h2] at k2
      go_enter Tryd.func10, Tryd.ntmps10
      go_wp2_with fail
      refine k1.mono ?_
      rintro y w1 ⟨rfl, rfl⟩
      go_wp2_with fail
      refine k2.mono ?_
      rintro y w2 ⟨rfl, rfl⟩
      go_wp2_with fail
      refine bodyPost_ret (results_tmp2 rfl _ _ _) rfl ?_
      exact unhide NIL _ _ 3 (unhide HC) (by decide) rfl b0
    | true =>
      rw [h2] at k2
      have hc0 : cuR r lo hi m (EE l) = (if lo < 0 ∨ hi < lo then 2 else if fdR r hi m (EE l) = 0 then fdR r lo m (EE l) else fdR r hi m (EE l)) := by unfold cuR; rw [h1, h2]; rfl
      by_cases h3 : lo < 0
      · have HC : Hid (cuR r lo hi m (EE l) = 2) := hide (by rw [hc0, if_pos (Or.inl h3)])
        have q3 : decide (lo < 0) = true := by simpa using h3
        clear hf1 hc0 h3
        go_enter Tryd.func10, Tryd.ntmps10
        go_wp2_with fail
        refine k1.mono ?_
        rintro y w1 ⟨rfl, rfl⟩
        go_wp2_with fail
        refine k2.mono ?_
        rintro y w2 ⟨rfl, rfl⟩
        go_wp2_with fail
        refine bodyPost_ret (results_tmp2 rfl _ _ _) rfl ?_
        exact unhide NIL _ _ 2 (unhide HC) (by decide) rfl b0
      · by_cases h4 : hi < lo
        · have HC : Hid (cuR r lo hi m (EE l) = 2) := hide (by rw [hc0, if_pos (Or.inr h4)])
          have q3 : decide (lo < 0) = false := by simpa using h3
          have q4 : decide (hi < lo) = true := by simpa using h4
          clear hf1 hc0 h3 h4
          go_enter Tryd.func10, Tryd.ntmps10
          go_wp2_with fail
          refine k1.mono ?_
          rintro y w1 ⟨rfl, rfl⟩
          go_wp2_with fail
          refine k2.mono ?_
          rintro y w2 ⟨rfl, rfl⟩
          go_wp2_with fail
          refine bodyPost_ret (results_tmp2 rfl _ _ _) rfl ?_
          exact unhide NIL _ _ 2 (unhide HC) (by decide) rfl b0
        · have q3 : decide (lo < 0) = false := by simpa using h3
          have q4 : decide (hi < lo) = false := by simpa using h4
          have hc1 : cuR r lo hi m (EE l) = if fdR r hi m (EE l) = 0 then fdR r lo m (EE l) else fdR r hi m (EE l) := by rw [hc0, if_neg (by omega)]
          have HLE : Hid (lo ≤ hi) := hide (by omega)
          clear hc0 h3 h4
          go_enter Tryd.func10, Tryd.ntmps10
          go_wp2_with fail
          refine k1.mono ?_
          rintro y w1 ⟨rfl, rfl⟩
          go_wp2_with fail
          refine k2.mono ?_
          rintro y w2 ⟨rfl, rfl⟩
          go_wp2_with fail
          refine hf1.mono ?_
          unfold edV
          rintro y w3 ⟨rfl, b3⟩
          clear hf1 k1 k2
          by_cases h5 : fdR r hi m (EE l) = 0
          · rw [if_pos h5] at hc1
            have H5 := hide h5
            have hcin := cut_in hB.2.2.2 (unhide HLE) (m := m) (r := r) h5
            rw [h5]
            generalize hye : fdE r hi m (EE l) = ye at *
            have HYE := hide hye
            have kE := Cls.new w3 58 #[.int .i64 (ye.1 : Int), .int .i64 (ye.2.1 : Int), .int .i64 (ye.2.2 : Int)]
            have b4 := b3.alloc (o := .cells #[.int .i64 (ye.1 : Int), .int .i64 (ye.2.1 : Int), .int .i64 (ye.2.2 : Int)] 58) b3.size
            clear h5 hye
            go_wp2_with fail
            generalize w3.alloc (.cells #[.int .i64 (ye.1 : Int), .int .i64 (ye.2.1 : Int), .int .i64 (ye.2.2 : Int)] 58) = w4 at *
            generalize w3.heap.size = gE at *
            have hB4 := hB.below b4 (Nat.le_refl _)
            refine (find_at a0 cap l r lo m w4 hB4 (hT.below b4 hT.size)).mono ?_
            unfold edV
            rintro y w5 ⟨rfl, b5⟩
            have kE5 := kE.below b5 kE.lt
            have hB5 := hB4.below b5 (Nat.le_refl _)
            have b45 := b4.trans (b5.mono b4.size)
            clear b5 b4 b3 kE hB4
            by_cases h6 : fdR r lo m (EE l) = 0
            · obtain ⟨i1, i2⟩ := hcin h6
              have HC : Hid (cuL r lo hi m l = (l.take ye.1).drop (fdE r lo m (EE l)).1 ∧ cuR r lo hi m (EE l) = 0) := hide (by
                have : cuR r lo hi m (EE l) = 0 := by rw [hc1, h6]
                exact ⟨by unfold cuL; rw [if_pos this, unhide HYE], this⟩)
              rw [h6]
              generalize fdE r lo m (EE l) = xe at *
              have kF := Cls.new w5 58 #[.int .i64 (xe.1 : Int), .int .i64 (xe.2.1 : Int), .int .i64 (xe.2.2 : Int)]
              have kE6 := kE5.alloc (.cells #[.int .i64 (xe.1 : Int), .int .i64 (xe.2.1 : Int), .int .i64 (xe.2.2 : Int)] 58)
              have b6 := b45.alloc (o := .cells #[.int .i64 (xe.1 : Int), .int .i64 (xe.2.1 : Int), .int .i64 (xe.2.2 : Int)] 58) b45.size
              have hB6 := hB.below b6 (Nat.le_refl _)
              have c0 : (w5.alloc (.cells #[.int .i64 (xe.1 : Int), .int .i64 (xe.2.1 : Int), .int .i64 (xe.2.2 : Int)] 58)).cell? ⟨w5.heap.size, 0, none⟩ = some (.int .i64 (xe.1 : Int)) := (kF.cell 0).trans rfl
              have c1 : (w5.alloc (.cells #[.int .i64 (xe.1 : Int), .int .i64 (xe.2.1 : Int), .int .i64 (xe.2.2 : Int)] 58)).cell? ⟨gE, 0, none⟩ = some (.int .i64 (ye.1 : Int)) := (kE6.cell 0).trans rfl
              have hcap := hB.1
              have hlen := hB.2.1
              have hLn : ((l.take ye.1).drop xe.1).length = ye.1 - xe.1 := by simp; omega
              have hIB := (hB6.takeR (n := ye.1)).loR (n := xe.1)
              have HTL := hide (Clone_at _ _ _ _ hIB)
              rw [hLn] at HTL
              have HLN := hide hLn
              clear h6 hc1 hcin kE5 hB5 kF kE6 hLn hIB hB hT hB6 b45
              by_cases hcx : cap = xe.1
              · have HCL := hide (by have := unhide HTL; rw [if_pos hcx] at this; exact this)
                subst hcx
                have sub0 : xe.1 - xe.1 = 0 := Nat.sub_self _
                rw [sub0] at HCL
                clear HTL
                go_wp2_with fail
                refine (unhide HCL).mono ?_
                rintro y w7 ⟨a7, c7, rfl, h7, b7⟩
                go_wp2_with fail
                refine bodyPost_ret (results_tmp2 rfl _ _ _) rfl ?_
                rw [(unhide HC).1, (unhide HC).2, unhide HLN]
                exact ⟨a7, c7, rfl, h7, b6.trans (b7.mono b6.size)⟩
              · have HCL := hide (by have := unhide HTL; rw [if_neg hcx] at this; exact this)
                clear HTL
                go_wp2_with fail
                refine (unhide HCL).mono ?_
                rintro y w7 ⟨a7, c7, rfl, h7, b7⟩
                go_wp2_with fail
                refine bodyPost_ret (results_tmp2 rfl _ _ _) rfl ?_
                rw [(unhide HC).1, (unhide HC).2, unhide HLN]
                exact ⟨a7, c7, rfl, h7, b6.trans (b7.mono b6.size)⟩
            · have HC := hide hc1
              have H6 := hide h6
              have q6 : (fdR r lo m (EE l) != 0) = true := by simpa using h6
              generalize fdR r lo m (EE l) = e at *
              clear hc1 h6 hcin
              have b6 := b45.alloc (o := .cells #[.int .i64 ((fdE r lo m (EE l)).1 : Int), .int .i64 ((fdE r lo m (EE l)).2.1 : Int), .int .i64 ((fdE r lo m (EE l)).2.2 : Int)] 58) b45.size
              go_wp2_with fail
              refine bodyPost_ret (results_tmp2 rfl _ _ _) rfl ?_
              exact unhide NIL _ _ e (unhide HC) (unhide H6) rfl b6
          · rw [if_neg h5] at hc1
            have HC := hide hc1
            have H5 := hide h5
            have q5 : (fdR r hi m (EE l) != 0) = true := by simpa using h5
            generalize fdR r hi m (EE l) = e at *
            clear hc1 h5
            have b4 := b3.alloc (o := .cells #[.int .i64 ((fdE r hi m (EE l)).1 : Int), .int .i64 ((fdE r hi m (EE l)).2.1 : Int), .int .i64 ((fdE r hi m (EE l)).2.2 : Int)] 58) b3.size
            go_wp2_with fail
            refine bodyPost_ret (results_tmp2 rfl _ _ _) rfl ?_
            exact unhide NIL _ _ e (unhide HC) (unhide H5) rfl b4

end Go.Proofs.YtnkeohiibninfabDoor
