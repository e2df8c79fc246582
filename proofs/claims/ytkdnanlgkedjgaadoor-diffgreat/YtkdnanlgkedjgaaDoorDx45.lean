/- Layer 19: leading, Least, Lines, Distance. · Layer 19: Least, Lines, Distance. · Layer 19: Cost: how many steps a delta drops and puts. · Layer 19, plain: what the calls of wakes answer. · Layer 19: the law's own, long and wakes. -/
import Derived.Test.YtkdnanlgkedjgaaDoorDx44
import Derived.Test.YtkdnanlgkedjgaaDoorDx43
import Derived.Test.YtkdnanlgkedjgaaDoorDx42
import Derived.Test.YtkdnanlgkedjgaaDoorDx40
import Derived.Test.YtkdnanlgkedjgaaDoorDx41

section
namespace Go.Proofs.YtkdnanlgkedjgaaDoor
open Go.ChangeShapes Go.WideShapes Go.ChangeAt Go.RowKit
attribute [local go_sem] Oper.semAt_some

theorem own_isOD {W : World} {B : Nat} {t : TypeId} {v : Value} {d : List Dop} (h : W.ownsRow B t 3 v d.length (opsV d)) : ∃ a c, v = .slice a d.length c ∧ IsO W a d ∧ d.length ≤ c := by
  have hh := h
  rcases h.2 with ⟨rfl, h0⟩ | ⟨g, cap, cur, rfl, hB, hg, hc, hm, hs, ht⟩
  · have : d = [] := List.length_eq_zero_iff.1 h0
    exact ⟨none, 0, by rw [h0], Or.inl this, by omega⟩
  · refine ⟨some ⟨g, 0, none⟩, cap, rfl, Or.inr ⟨g, 0, rfl, (Array.getElem?_eq_some_iff.1 hg).1, fun k hk => ?_⟩, hc⟩
    have f : ∀ j, j < 3 → W.cell? ⟨g, 0 + (k * 3 + j), none⟩ = (opL (d.getD k opZ))[j]? := fun j hj => by
      have e := opsV_get d k j hk hj
      obtain ⟨u, hu⟩ : ∃ u, (opL (d.getD k opZ))[j]? = some u := ⟨_, List.getElem?_eq_getElem (by simpa [opL] using hj)⟩
      rw [hu] at e ⊢
      have := World.ownsRow.cells hh rfl (k * 3 + j) u e
      rwa [Addr.add_lit] at this
    exact ⟨f 0 (by decide), f 1 (by decide), f 2 (by decide)⟩
theorem num_len (K ps : List (List Int)) : (numP K ps).length = ps.length := by simp [numP]
theorem cut_subs {l : List Int} (hb : ByL l) (a b : Nat) : ByL (subL l a b) := fun x hx => hb x (List.mem_of_mem_drop (List.mem_of_mem_take hx))
theorem chsN_tb {m : List Int} {xc yc : List Nat} (hb : ByL m) : ∀ (L : List (Nat × Nat × Nat)) (i j : Nat), ∀ o ∈ chsN m xc yc i j L, TbD o
  | [], _, _, o, h => by cases h
  | (p, q, n) :: r, i, j, o, h => by
    simp only [chsN] at h
    rcases List.mem_append.1 h with h | h
    · split at h
      · rw [List.mem_singleton] at h; subst h; exact cut_subs hb _ _
      · cases h
    · exact chsN_tb hb r _ _ o h
set_option maxRecDepth 100000 in
set_option maxHeartbeats 8000000 in
theorem leading_at (f : Nat) (cut : List Int → List Nat) (a0 : Option Addr) (c0 : Nat) (l : List Int) (b0 : Option Addr) (d0' : Nat) (m : List Int) (w : World) (ef : ∀ args w, (callFunc f args).run Tryd.prog w = .ok (.enter f args) w) (hl : CutF f cut w a0 c0 l) (hm : CutF f cut w b0 d0' m) (hB : IsB w a0 c0 l) (hB' : IsB w b0 d0' m) (zl : l.length ≤ 1048576) (zm : m.length ≤ 1048576) :
    Calls Tryd.prog 30 #[.slice a0 l.length c0, .slice b0 m.length d0', .func (.func f) #[] #[]] w fun y w' => Below w.heap.size w w' ∧
      ((¬ ((cut l).length ≤ 2049 ∧ (cut m).length ≤ 2049) ∧ y = .returned (.tuple #[.slice none 0 0, .int .i64 190])) ∨
       ((cut l).length ≤ 2049 ∧ (cut m).length ≤ 2049 ∧ ∃ v, y = .returned (.tuple #[v, .int .i64 0]) ∧ w'.ownsRow w.heap.size 38 3 v (leastD l m (cut l) (cut m)).length (opsV (leastD l m (cut l) (cut m))))) := by
  have HC := hide (cutBoth_at f cut a0 c0 l b0 d0' m w ef hl hm hB hB')
  have HOK := hide (And.intro hl.ok hm.ok)
  have HB := hide hB'
  have HBB := hide hB'.2.2.2
  clear hl hm hB hB'
  go_enter Tryd.func30, Tryd.ntmps30
  go_wp2_with fail
  refine (unhide HC).mono ?_
  rintro y w1 ⟨hb1, ⟨hno, rfl⟩ | ⟨hA, hC, a1, c1, a2, c2, a3, c3, a4, c4, rfl, ⟨i1, i2, k2⟩, i3, i4, k4⟩⟩
  · dsimp only
    have HBx := hide ((hb1.alloc hb1.size (.cells #[.slice none 0 0, .slice none 0 0, .slice none 0 0] 53)).alloc (by have := hb1.size; simp; omega) (.cells #[.slice none 0 0, .slice none 0 0, .slice none 0 0] 53))
    clear HC hb1
    go_wp2_with fail
    exact bodyPost_ret (results_tmp2 rfl _ _ _) rfl ⟨unhide HBx, .inl ⟨hno, rfl⟩⟩
  · dsimp only
    clear HC
    have hxx := (num_runs (cutP l (cut l)) (cutP m (cut m))).1
    have nl1 : (numP [] (cutP l (cut l))).length + 1 = (cut l).length := by rw [num_len]; exact cutP_cnt (unhide HOK).1
    have nl2 : (numP (knoP [] (cutP l (cut l))) (cutP m (cut m))).length + 1 = (cut m).length := by rw [num_len]; exact cutP_cnt (unhide HOK).2
    have b2 : Below w.heap.size w (w1.alloc (.cells #[.slice a0 l.length c0, .slice a1 (cut l).length c1, .slice a2 (numP [] (cutP l (cut l))).length c2] 53)) := hb1.alloc hb1.size _
    have b3 := b2.alloc b2.size (.cells #[.slice b0 m.length d0', .slice a3 (cut m).length c3, .slice a4 (numP (knoP [] (cutP l (cut l))) (cutP m (cut m))).length c4] 53)
    have e2 : Below w1.heap.size w1 (w1.alloc (.cells #[.slice a0 l.length c0, .slice a1 (cut l).length c1, .slice a2 (numP [] (cutP l (cut l))).length c2] 53)) := (Below.refl _ _).alloc (Nat.le_refl _) _
    have e3 := e2.alloc e2.size (.cells #[.slice b0 m.length d0', .slice a3 (cut m).length c3, .slice a4 (numP (knoP [] (cutP l (cut l))) (cutP m (cut m))).length c4] 53)
    have q8 := (Cls.new w1 53 #[.slice a0 l.length c0, .slice a1 (cut l).length c1, .slice a2 (numP [] (cutP l (cut l))).length c2]).alloc (.cells #[.slice b0 m.length d0', .slice a3 (cut m).length c3, .slice a4 (numP (knoP [] (cutP l (cut l))) (cutP m (cut m))).length c4] 53)
    have q9 := Cls.new (w1.alloc (.cells #[.slice a0 l.length c0, .slice a1 (cut l).length c1, .slice a2 (numP [] (cutP l (cut l))).length c2] 53)) 53 #[.slice b0 m.length d0', .slice a3 (cut m).length c3, .slice a4 (numP (knoP [] (cutP l (cut l))) (cutP m (cut m))).length c4]
    simp only [World.size_alloc] at q9
    obtain ⟨x0, x1, x2⟩ := q8.three
    obtain ⟨y0, y1, y2⟩ := q9.three
    have hCH := changed_at a0 c0 l b0 d0' m a1 a2 a3 a4 c1 c2 c3 c4 (cut l) (numP [] (cutP l (cut l))) (cut m) (numP (knoP [] (cutP l (cut l))) (cutP m (cut m))) _ ((unhide HB).below b3 (Nat.le_refl _)) (i1.below e3 (Nat.le_refl _)) (i2.below e3 (Nat.le_refl _)) (i3.below e3 (Nat.le_refl _)) (i4.below e3 (Nat.le_refl _)) (unhide HOK).1 (unhide HOK).2 nl1 nl2 k2 k4 (by omega) (by omega)
    rw [hxx] at hCH
    unfold pcV at hCH
    have HCH := hide hCH
    have HB3 := hide b3
    have HN := hide (And.intro nl1 nl2)
    have hle := runs_len (cutP l (cut l)) (cutP m (cut m))
    have hlc := chsR_len (cut l) (cut m) m (runsL (cutP l (cut l)) (cutP m (cut m))) _ (Nat.le_refl _)
    rw [List.take_length] at hlc
    have hcn := cutP_cnt (unhide HOK).1
    have HLC : Hid ((chsR (cut l) (cut m) m (runsL (cutP l (cut l)) (cutP m (cut m)))).2.2.length ≤ 4398046511104) := hide (by omega)
    have hof := ofD_least (unhide HOK).1 (unhide HOK).2 (show l.length ≤ 268435456 by omega) (show m.length ≤ 268435456 by omega)
    have HOF := hide hof
    have HTB : Hid (∀ o ∈ (chsR (cut l) (cut m) m (runsL (cutP l (cut l)) (cutP m (cut m)))).2.2, TbD o) := hide (by
      rw [(least_is (unhide HOK).1 (unhide HOK).2).1]
      exact chsN_tb (unhide HBB) _ _ _)
    have HAC := hide (And.intro hA hC)
    clear hCH b2 b3 e2 e3 q8 q9 hb1 i1 i2 i3 i4 k2 k4 nl1 nl2 hle hlc hcn hof hA hC hxx
    have t1 : decide ((l.length : Int) > 268435456) = false := decide_eq_false (by omega)
    have t2 : decide ((m.length : Int) > 268435456) = false := decide_eq_false (by omega)
    have t3 : decide ((268435456 : Int) < (l.length : Int)) = false := decide_eq_false (by omega)
    have t4 : decide ((268435456 : Int) < (m.length : Int)) = false := decide_eq_false (by omega)
    go_wp2_with fail
    all_goals
      refine (unhide HCH).mono ?_
      rintro y w4 ⟨v, rfl, hb4, hr4⟩
      obtain ⟨av, cv, rfl, hv4, _⟩ := own_isOD hr4
      dsimp only
      have HO := hide (Of_atD av cv (l.length : Int) _ 0 w4 hv4 (unhide HLC) (unhide HOF).1)
      rw [(unhide HOF).2] at HO
      have HB4 := hide ((unhide HB3).trans (hb4.mono (unhide HB3).size))
      clear hb4 hr4 hv4 x0 x1 x2 y0 y1 y2 HCH
      go_wp2_with fail
      refine (unhide HO).mono ?_
      rintro y w5 ⟨v5, rfl, hr5, hb5⟩
      dsimp only at hr5 ⊢
      have HB5 := hide ((unhide HB4).trans (hb5.mono (unhide HB4).size))
      have HR5 := hide (row_baseS hr5 (unhide HB4).size)
      clear HO hb5 hr5
      go_wp2_with fail
      exact bodyPost_ret (results_tmp2 rfl _ _ _) rfl ⟨unhide HB5, .inr ⟨(unhide HAC).1, (unhide HAC).2, v5, rfl, unhide HR5⟩⟩
end Go.Proofs.YtkdnanlgkedjgaaDoor
end

section
namespace Go.Proofs.YtkdnanlgkedjgaaDoor
open Go.ChangeShapes Go.WideShapes Go.ChangeAt Go.RowKit
attribute [local go_sem] Oper.semAt_some

theorem cutF_steps {w : World} {a0 : Option Addr} {c0 : Nat} {l : List Int} (hB : IsB w a0 c0 l) (hT : Tab w) : CutF 27 cutS w a0 c0 l := by
  have e : (cutS l).length = (spots l 0).length + 1 := by simp [cutS]
  refine ⟨fun X hX => (stepCuts_at a0 c0 l X (hB.below hX (Nat.le_refl _)) (hT.below hX hT.size)).mono ?_, cutS_ok l⟩
  rintro y X' ⟨a', n', c', rfl, hb, h⟩
  refine ⟨a', n', c', ?_, hb, fun g => h (by omega)⟩
  rw [show decide ((cutS l).length ≤ 2049) = decide ((spots l 0).length ≤ 2048) by rw [decide_eq_decide]; omega]
theorem cutF_lines {w : World} {a0 : Option Addr} {c0 : Nat} {l : List Int} (hB : IsB w a0 c0 l) (hl : l.length ≤ 1048576) : CutF 31 cutN w a0 c0 l :=
  ⟨fun X hX => lineCuts_at a0 c0 l X (hB.below hX (Nat.le_refl _)) hl, cutN_ok l⟩
/-- what Least and Lines answer -/
def LeastP (w w' : World) (y : Ending) (cut : List Int → List Nat) (l m : List Int) : Prop := Below w.heap.size w w' ∧
  ((¬ ((cut l).length ≤ 2049 ∧ (cut m).length ≤ 2049) ∧ y = .returned (.tuple #[.slice none 0 0, .int .i64 190])) ∨
   ((cut l).length ≤ 2049 ∧ (cut m).length ≤ 2049 ∧ ∃ v, y = .returned (.tuple #[v, .int .i64 0]) ∧ w'.ownsRow w.heap.size 38 3 v (leastD l m (cut l) (cut m)).length (opsV (leastD l m (cut l) (cut m)))))
set_option maxRecDepth 100000 in
set_option maxHeartbeats 1000000 in
theorem Least_at (a0 : Option Addr) (c0 : Nat) (l : List Int) (b0 : Option Addr) (d0' : Nat) (m : List Int) (w : World) (hB : IsB w a0 c0 l) (hB' : IsB w b0 d0' m) (hT : Tab w) (zl : l.length ≤ 1048576) (zm : m.length ≤ 1048576) :
    Calls Tryd.prog 14 #[.slice a0 l.length c0, .slice b0 m.length d0'] w fun y w' => LeastP w w' y cutS l m := by
  have HC := hide (leading_at 27 cutS a0 c0 l b0 d0' m w (enters_of Tryd.func27 (by kernel_rfl) rfl) (cutF_steps hB hT) (cutF_steps hB' hT) hB hB' zl zm)
  clear hB hB' hT
  go_enter Tryd.func14, Tryd.ntmps14
  go_wp2_with fail
  refine (unhide HC).mono ?_
  rintro y w1 ⟨hb, ⟨hno, rfl⟩ | ⟨h1, h2, v, rfl, ho⟩⟩
  · dsimp only
    clear HC
    go_wp2_with fail
    exact bodyPost_ret (results_tmp2 rfl _ _ _) rfl ⟨hb, .inl ⟨hno, rfl⟩⟩
  · dsimp only
    have HO := hide ho
    clear HC ho
    go_wp2_with fail
    exact bodyPost_ret (results_tmp2 rfl _ _ _) rfl ⟨hb, .inr ⟨h1, h2, v, rfl, unhide HO⟩⟩
set_option maxRecDepth 100000 in
set_option maxHeartbeats 1000000 in
theorem LinesD_at (a0 : Option Addr) (c0 : Nat) (l : List Int) (b0 : Option Addr) (d0' : Nat) (m : List Int) (w : World) (hB : IsB w a0 c0 l) (hB' : IsB w b0 d0' m) (zl : l.length ≤ 1048576) (zm : m.length ≤ 1048576) :
    Calls Tryd.prog 15 #[.slice a0 l.length c0, .slice b0 m.length d0'] w fun y w' => LeastP w w' y cutN l m := by
  have HC := hide (leading_at 31 cutN a0 c0 l b0 d0' m w (enters_of Tryd.func31 (by kernel_rfl) rfl) (cutF_lines hB zl) (cutF_lines hB' zm) hB hB' zl zm)
  clear hB hB'
  go_enter Tryd.func15, Tryd.ntmps15
  go_wp2_with fail
  refine (unhide HC).mono ?_
  rintro y w1 ⟨hb, ⟨hno, rfl⟩ | ⟨h1, h2, v, rfl, ho⟩⟩
  · dsimp only
    clear HC
    go_wp2_with fail
    exact bodyPost_ret (results_tmp2 rfl _ _ _) rfl ⟨hb, .inl ⟨hno, rfl⟩⟩
  · dsimp only
    have HO := hide ho
    clear HC ho
    go_wp2_with fail
    exact bodyPost_ret (results_tmp2 rfl _ _ _) rfl ⟨hb, .inr ⟨h1, h2, v, rfl, unhide HO⟩⟩
theorem sumR_take (L : List (Nat × Nat × Nat)) {k : Nat} (hk : k < L.length) : sumR (L.take (k + 1)) = sumR (L.take k) + (L.getD k (0, 0, 0)).2.2 := by
  unfold sumR
  rw [List.take_add_one, List.map_append, List.sum_append, List.getElem?_eq_getElem hk]
  simp [List.getD, List.getElem?_eq_getElem hk]
theorem sumR_le (L : List (Nat × Nat × Nat)) (k : Nat) : sumR (L.take k) ≤ sumR L := by
  have h : sumR L = sumR (L.take k) + sumR (L.drop k) := by
    unfold sumR
    rw [← List.sum_append, ← List.map_append, List.take_append_drop]
  omega
/-- how many pieces stand alone -/
def aloN (cut : List Int → List Nat) (l m : List Int) : Nat := (cutP l (cut l)).length + (cutP m (cut m)).length - 2 * lcs (cutP l (cut l)) (cutP m (cut m))
set_option maxRecDepth 100000 in
set_option maxHeartbeats 4000000 in
theorem Distance_at (a0 : Option Addr) (c0 : Nat) (l : List Int) (b0 : Option Addr) (d0' : Nat) (m : List Int) (w : World) (hB : IsB w a0 c0 l) (hB' : IsB w b0 d0' m) (hT : Tab w) :
    Calls Tryd.prog 11 #[.slice a0 l.length c0, .slice b0 m.length d0'] w fun y w' => Below w.heap.size w w' ∧
      ((¬ ((cutS l).length ≤ 2049 ∧ (cutS m).length ≤ 2049) ∧ y = .returned (.tuple #[.int .i64 0, .int .i64 190])) ∨ ((cutS l).length ≤ 2049 ∧ (cutS m).length ≤ 2049 ∧ y = .returned (.tuple #[.int .i64 (aloN cutS l m : Int), .int .i64 0]))) := by
  have HC := hide (cutBoth_at 27 cutS a0 c0 l b0 d0' m w (enters_of Tryd.func27 (by kernel_rfl) rfl) (cutF_steps hB hT) (cutF_steps hB' hT) hB hB')
  clear hB hB' hT
  go_enter Tryd.func11, Tryd.ntmps11
  go_wp2_with fail
  refine (unhide HC).mono ?_
  rintro y w1 ⟨hb1, ⟨hno, rfl⟩ | ⟨hA, hC, a1, c1, a2, c2, a3, c3, a4, c4, rfl, ⟨i1, i2, k2⟩, i3, i4, k4⟩⟩
  · dsimp only
    have HBx := hide ((hb1.alloc hb1.size (.cells #[.slice none 0 0, .slice none 0 0, .slice none 0 0] 53)).alloc (by have := hb1.size; simp; omega) (.cells #[.slice none 0 0, .slice none 0 0, .slice none 0 0] 53))
    clear HC hb1
    go_wp2_with fail
    exact bodyPost_ret (results_tmp2 rfl _ _ _) rfl ⟨unhide HBx, .inl ⟨hno, rfl⟩⟩
  · dsimp only
    clear HC i1 i3
    have hlc := num_runs (cutP l (cutS l)) (cutP m (cutS m))
    have nl1 : (numP [] (cutP l (cutS l))).length = (cutP l (cutS l)).length := num_len _ _
    have nl2 : (numP (knoP [] (cutP l (cutS l))) (cutP m (cutS m))).length = (cutP m (cutS m)).length := num_len _ _
    have cl1 := cutP_cnt (cutS_ok l)
    have cl2 := cutP_cnt (cutS_ok m)
    have hsum := runs_sum (cutP l (cutS l)) (cutP m (cutS m))
    have hlen := lcs_len (cutP l (cutS l)) (cutP m (cutS m))
    generalize numP (knoP [] (cutP l (cutS l))) (cutP m (cutS m)) = n2 at *
    generalize numP [] (cutP l (cutS l)) = n1 at *
    have b2 : Below w.heap.size w (w1.alloc (.cells #[.slice a0 l.length c0, .slice a1 (cutS l).length c1, .slice a2 n1.length c2] 53)) := hb1.alloc hb1.size _
    have b3 := b2.alloc b2.size (.cells #[.slice b0 m.length d0', .slice a3 (cutS m).length c3, .slice a4 n2.length c4] 53)
    have e2 : Below w1.heap.size w1 (w1.alloc (.cells #[.slice a0 l.length c0, .slice a1 (cutS l).length c1, .slice a2 n1.length c2] 53)) := (Below.refl _ _).alloc (Nat.le_refl _) _
    have e3 := e2.alloc e2.size (.cells #[.slice b0 m.length d0', .slice a3 (cutS m).length c3, .slice a4 n2.length c4] 53)
    have q8 := (Cls.new w1 53 #[.slice a0 l.length c0, .slice a1 (cutS l).length c1, .slice a2 n1.length c2]).alloc (.cells #[.slice b0 m.length d0', .slice a3 (cutS m).length c3, .slice a4 n2.length c4] 53)
    have q9 := Cls.new (w1.alloc (.cells #[.slice a0 l.length c0, .slice a1 (cutS l).length c1, .slice a2 n1.length c2] 53)) 53 #[.slice b0 m.length d0', .slice a3 (cutS m).length c3, .slice a4 n2.length c4]
    simp only [World.size_alloc] at q9
    obtain ⟨x0, x1, x2⟩ := q8.three
    obtain ⟨y0, y1, y2⟩ := q9.three
    have HCM := hide (common_at a2 c2 n1 a4 c4 n2 _ (i2.below e3 (Nat.le_refl _)) (i4.below e3 (Nat.le_refl _)) k2 k4 (by omega) (by omega))
    have HB3 := hide b3
    have HAN : Hid (aloN cutS l m = n1.length + n2.length - 2 * sumR (runsL n1 n2)) := hide (by unfold aloN; rw [hlc.1, hsum, nl1, nl2])
    have hS : sumR (runsL n1 n2) ≤ n1.length ∧ sumR (runsL n1 n2) ≤ n2.length := by rw [hlc.1, hsum]; omega
    have z1 : n1.length ≤ 2048 := by omega
    have z2 : n2.length ≤ 2048 := by omega
    have HAC := hide (And.intro hA hC)
    have hLl := runs_len n1 n2
    clear b2 b3 e2 e3 q8 q9 hb1 i2 i4 k2 k4 hlc nl1 nl2 cl1 cl2 hsum hlen hA hC
    go_wp2_with fail
    refine (unhide HCM).mono ?_
    rintro e w3 ⟨vR, kR, rfl, hR, hb3⟩
    dsimp only
    obtain ⟨aR, cR, rfl, hru⟩ := ra_runs hR
    have HRU := hide hru
    have HB4 := hide ((unhide HB3).trans (hb3.mono (unhide HB3).size))
    clear HCM hR hb3 hru x0 x1 x2 y0 y1 y2 HB3
    generalize runsL n1 n2 = L at *
    have t0 : (n1.length : Int) + (n2.length : Int) = (n1.length : Int) + (n2.length : Int) - 2 * (sumR (L.take 0) : Int) := by simp [sumR]
    have HT0 : Hid (Value.int .i64 ((n1.length : Int) + (n2.length : Int)) = .int .i64 ((n1.length : Int) + (n2.length : Int) - 2 * (sumR (L.take 0) : Int))) := hide (by rw [← t0])
    clear t0
    go_wp2_with fail
    go_loopw [9, 11, 35] (fun v9 v11 v35 wx => (∃ z, v11 = z) ∧ ∃ k : Nat, v35 = .int .i64 (k : Int) ∧ k ≤ L.length ∧ v9 = .int .i64 ((n1.length : Int) + (n2.length : Int) - 2 * (sumR (L.take k) : Int)) ∧ Hid (Below w3.heap.size w3 wx)) (fun _ _ v35 _ => L.length - (intOf v35).toNat)
    case atStart => exact ⟨⟨_, rfl⟩, 0, rfl, Nat.zero_le _, unhide HT0, hide (Below.refl _ _)⟩
    case round =>
      clear HT0
      obtain ⟨⟨z, rfl⟩, k, rfl, hk, rfl, HX⟩ := hrel
      by_cases h1 : k < L.length
      · have t1 : decide ((k : Int) < (L.length : Int)) = true := decide_eq_true (by omega)
        have f1 : (k : Int) < (L.length : Int) := by omega
        obtain ⟨gr, offr, rfl, hgr, e0, e1, e2⟩ := ((unhide HRU).below (unhide HX) (Nat.le_refl _)).at h1
        have hst := sumR_take L h1
        have hle := sumR_le L (k + 1)
        have HNX := hide ((unhide HX).alloc (unhide HX).size (.cells #[.int .i64 ((L.getD k (0, 0, 0)).1 : Int), .int .i64 ((L.getD k (0, 0, 0)).2.1 : Int), .int .i64 ((L.getD k (0, 0, 0)).2.2 : Int)] 60))
        have dd := (Cls.new wr 60 #[.int .i64 ((L.getD k (0, 0, 0)).1 : Int), .int .i64 ((L.getD k (0, 0, 0)).2.1 : Int), .int .i64 ((L.getD k (0, 0, 0)).2.2 : Int)]).three
        obtain ⟨d0, d1, d2⟩ := dd
        have hsk := sumR_le L k
        generalize L.getD k (0, 0, 0) = rn at *
        obtain ⟨p, q, n⟩ := rn
        dsimp only at e0 e1 e2 hst HNX d0 d1 d2
        have hn : n ≤ 2048 := by omega
        have e9 : (n1.length : Int) + (n2.length : Int) - 2 * (sumR (L.take k) : Int) - 2 * (n : Int) = (n1.length : Int) + (n2.length : Int) - 2 * (sumR (L.take (k + 1)) : Int) := by omega
        have HE9 : Hid (Value.int .i64 ((n1.length : Int) + (n2.length : Int) - 2 * (sumR (L.take k) : Int) - 2 * (n : Int)) = .int .i64 ((n1.length : Int) + (n2.length : Int) - 2 * (sumR (L.take (k + 1)) : Int))) := hide (by rw [e9])
        clear hst e9
        generalize sumR (L.take k) = Sk at *
        go_wp2_with fail
        go_roundw
        case rel => exact ⟨⟨_, rfl⟩, k + 1, by go_num, h1, unhide HE9, HNX⟩
        case measure => simp [intOf]; omega
      · have t1 : decide ((k : Int) < (L.length : Int)) = false := decide_eq_false (by omega)
        have hv : (n1.length : Int) + (n2.length : Int) - 2 * (sumR (L.take k) : Int) = (aloN cutS l m : Int) := by
          rw [unhide HAN, List.take_of_length_le (by omega)]; omega
        rw [hv]
        go_wp2_with fail
        exact bodyPost_ret (results_tmp2 rfl _ _ _) rfl ⟨(unhide HB4).trans ((unhide HX).mono (unhide HB4).size), .inr ⟨(unhide HAC).1, (unhide HAC).2, rfl⟩⟩
end Go.Proofs.YtkdnanlgkedjgaaDoor
end

section
namespace Go.Proofs.YtkdnanlgkedjgaaDoor
open Go.ChangeShapes Go.WideShapes Go.ChangeAt Go.RowKit
attribute [local go_sem] Oper.semAt_some

/-- []byte(string) in whatever world -/
theorem run_toBytesC (W : World) (l : List Int) (hl : ∀ x ∈ l, 0 ≤ x ∧ x ≤ 255) (hn : l.length ≤ 140737488351232) :
    ∃ c W', (convert 9 22 (.string (strOfNums l))).run Tryd.prog W = .ok (.slice (some ⟨W.heap.size, 0, none⟩) l.length c) W' ∧ IsB W' (some ⟨W.heap.size, 0, none⟩) c l ∧ Below W.heap.size W W' := by
  have := run_bytes_of_string (P := Tryd.prog) W 9 22 5 (strOfNums l) Tryd.underlying9 Tryd.underlying22 Tryd.underlying5
  rw [strOfNums_size] at this
  have hge := grownCap_ge W l.length 0 5
  refine ⟨_, _, this, IsB.of (fun i hi => ⟨?_, ?_⟩) hge hn, ((Below.refl W.heap.size W).drew).alloc (Nat.le_refl _) _⟩
  · rw [Nat.zero_add]
    refine (World.cell?_alloc_mark W.drew _ 5 _ i).trans ?_
    have hb := hl _ (List.getElem_mem hi)
    unfold bytesRow
    rw [Array.getElem?_append_left (by rw [Array.size_map]; show i < (strOfNums l).size; rw [strOfNums_size]; exact hi)]
    simp [strOfNums, List.getElem?_eq_getElem hi, List.getD]
    omega
  · have := hl _ (List.getElem_mem hi)
    simpa [List.getD, List.getElem?_eq_getElem hi] using this
def stepN (t : List Int) : Nat := (spots t 0).length
theorem stepN_le (t : List Int) : stepN t ≤ t.length := by have := spots_le t t.length 0 (by omega) (Nat.zero_le _); unfold stepN; omega
theorem stepN_nil : stepN [] = 0 := by unfold stepN; rw [spots_end (by simp)]; rfl
def EdgP (l : List Int) (q : Nat) : Prop := edgeB l (q : Int) = true
instance (l : List Int) (q : Nat) : Decidable (EdgP l q) := inferInstanceAs (Decidable (_ = true))
theorem edgP_zero (l : List Int) : EdgP l 0 := by
  have e : edgeB l ((0 : Nat) : Int) = (decide ((0 : Int) ≤ 0 ∧ (0 : Int) ≤ (l.length : Int)) && !inside l 0) := rfl
  unfold EdgP
  rw [e, edge_zero]
  simp
/-- what every change of a valid delta is -/
def ChO (c : Dop) : Prop := 0 ≤ c.k ∧ c.k ≤ c.n ∧ TbD c
theorem her_ch {m : Nat} {cs : List Dop} (h : ∀ c ∈ cs, ChO c) : ∀ c ∈ herL m cs, ChO c := by
  unfold herL
  split
  · exact h
  · intro c hc
    rcases List.mem_append.1 hc with hc | hc
    · exact h c hc
    · rw [List.mem_singleton] at hc; subst hc; exact ⟨by show (0 : Int) ≤ (m : Int); omega, Int.le_refl _, fun x hx => by cases hx⟩
theorem up_ch {f : Dop → Dop} {cs : List Dop} (hf : ∀ c, ChO c → ChO (f c)) (h : ∀ c ∈ cs, ChO c) : ∀ c ∈ upL f cs, ChO c := fun c hc => by
  unfold upL at hc
  rcases List.mem_append.1 hc with hc | hc
  · exact h c ((List.dropLast_sublist cs).subset hc)
  · cases hg : cs.getLast? with
    | none => rw [hg] at hc; simp at hc
    | some x =>
      rw [hg] at hc
      simp at hc
      subst hc
      exact hf x (h x (List.mem_of_getLast? hg))
theorem run_ch : ∀ (d : List Dop) (s : Nat × List Dop), (∀ o ∈ d, TbD o) → (∀ c ∈ s.2, ChO c) → ∀ c ∈ (d.foldl stL s).2, ChO c
  | [], s, _, h => h
  | o :: r, s, ht, h => by
    rw [List.foldl_cons]
    refine run_ch r _ (fun x hx => ht x (by simp [hx])) ?_
    unfold stL
    split
    · exact h
    · split
      · exact up_ch (fun c hc => ⟨hc.1, hc.2.1, ht o (by simp)⟩) (her_ch h)
      · exact up_ch (fun c hc => ⟨hc.1, by have := hc.2.1; show c.k ≤ c.n + (o.n.toNat : Int); omega, hc.2.2⟩) (her_ch h)
theorem run_tl : ∀ (d : List Dop) (s : Nat × List Dop), (∀ o ∈ d, o.t.length ≤ 140737488351232) → (∀ c ∈ s.2, c.t.length ≤ 140737488351232) → ∀ c ∈ (d.foldl stL s).2, c.t.length ≤ 140737488351232
  | [], s, _, h => h
  | o :: r, s, ht, h => by
    rw [List.foldl_cons]
    refine run_tl r _ (fun x hx => ht x (by simp [hx])) ?_
    have hh : ∀ m : Nat, ∀ c ∈ herL m s.2, c.t.length ≤ 140737488351232 := fun m c hc => by
      unfold herL at hc
      split at hc
      · exact h c hc
      · rcases List.mem_append.1 hc with hc | hc
        · exact h c hc
        · rw [List.mem_singleton] at hc; subst hc; simp
    have hu : ∀ (f : Dop → Dop) (cs : List Dop), (∀ c, c.t.length ≤ 140737488351232 → (f c).t.length ≤ 140737488351232) → (∀ c ∈ cs, c.t.length ≤ 140737488351232) → ∀ c ∈ upL f cs, c.t.length ≤ 140737488351232 := fun f cs hf h c hc => by
      unfold upL at hc
      rcases List.mem_append.1 hc with hc | hc
      · exact h c ((List.dropLast_sublist cs).subset hc)
      · cases hg : cs.getLast? with
        | none => rw [hg] at hc; simp at hc
        | some x =>
          rw [hg] at hc
          simp at hc
          subst hc
          exact hf x (h x (List.mem_of_getLast? hg))
    unfold stL
    split
    · exact h
    · split
      · exact hu _ _ (fun c _ => ht o (by simp)) (hh _)
      · exact hu _ _ (fun c hc => hc) (hh _)
theorem frDc (o : Dop) (d : List Dop) : frD (o :: d) = frN o + frD d := by simp [frD]
theorem toDc (o : Dop) (d : List Dop) : toD (o :: d) = toN o + toD d := by simp [toD]
theorem sumRf_le (l : List Int) : ∀ (d : List Dop) (m : Nat), (∀ o ∈ d, o.k = 1 ∨ o.k = 2 ∨ o.k = 3) → sumRf stepN l m d ≤ frD d + toD d
  | [], m, _ => Nat.zero_le _
  | o :: r, m, h => by
    have ih := fun q => sumRf_le l r q fun x hx => h x (by simp [hx])
    rw [frDc, toDc]
    simp only [sumRf]
    rcases h o (by simp) with g | g | g
    · have := ih (m + o.n.toNat)
      simp [g]; omega
    · have := ih m
      have := stepN_le o.t
      simp [g, toN]; omega
    · have := ih (m + o.n.toNat)
      have h1 := stepN_le (subL l m (m + o.n.toNat))
      have h2 : (subL l m (m + o.n.toNat)).length ≤ o.n.toNat := by unfold subL; rw [List.length_take]; omega
      simp [g, frN]; omega
theorem wrap_two (a b c : Nat) (h : a + (b + c) ≤ 536870912) : IntKind.i64.wrap ((a : Int) + IntKind.i64.wrap ((b : Int) + (c : Int))) = ((a + (b + c) : Nat) : Int) := by
  have e : IntKind.i64.wrap ((b : Int) + (c : Int)) = ((b + c : Nat) : Int) := by rw [IntKind.wrap_i64]; omega
  rw [e, IntKind.wrap_i64]; clear e; omega
theorem sumP_take (l : List Int) (cs : List Dop) {k : Nat} (hk : k < cs.length) : sumP stepN l (cs.take (k + 1)) = sumP stepN l (cs.take k) + (stepN (subL l (cs.getD k opZ).k.toNat (cs.getD k opZ).n.toNat) + stepN (cs.getD k opZ).t) := by
  rw [List.take_add_one, sumP_app, List.getElem?_eq_getElem hk, Option.toList_some, sumP_one]
  simp [List.getD, List.getElem?_eq_getElem hk]
theorem sumP_pre (l : List Int) (cs : List Dop) (k : Nat) : sumP stepN l (cs.take k) ≤ sumP stepN l cs := by
  have h : sumP stepN l cs = sumP stepN l (cs.take k) + sumP stepN l (cs.drop k) := by rw [← sumP_app, List.take_append_drop]
  omega
theorem okP_take {E : Nat → Prop} (cs : List Dop) {k : Nat} (hk : k < cs.length) : okP E (cs.take (k + 1)) ↔ okP E (cs.take k) ∧ E (cs.getD k opZ).k.toNat ∧ E (cs.getD k opZ).n.toNat := by
  rw [List.take_add_one, okP_app, List.getElem?_eq_getElem hk, Option.toList_some, okP_one]
  simp [List.getD, List.getElem?_eq_getElem hk]
theorem okP_pre {E : Nat → Prop} {cs : List Dop} (h : okP E cs) (k : Nat) : okP E (cs.take k) := fun c hc => h c (List.mem_of_mem_take hc)
instance (E : Nat → Prop) [DecidablePred E] (cs : List Dop) : Decidable (okP E cs) := inferInstanceAs (Decidable (∀ c ∈ cs, E c.k.toNat ∧ E c.n.toNat))
/-- what Cost answers -/
def costN (l : List Int) (d : List Dop) : Int × Int := if valB d then (if frD d = l.length then (if okP (EdgP l) (runL d).2 then ((sumP stepN l (runL d).2 : Int), 0) else (0, 4)) else (0, 131)) else (0, 130)
theorem own_isOE {W : World} {B : Nat} {t : TypeId} {v : Value} {d : List Dop} (h : W.ownsRow B t 3 v d.length (opsV d)) : ∃ a c, v = .slice a d.length c ∧ IsO W a d ∧ d.length ≤ c := by
  have hh := h
  rcases h.2 with ⟨rfl, h0⟩ | ⟨g, cap, cur, rfl, hB, hg, hc, hm, hs, ht⟩
  · have : d = [] := List.length_eq_zero_iff.1 h0
    exact ⟨none, 0, by rw [h0], Or.inl this, by omega⟩
  · refine ⟨some ⟨g, 0, none⟩, cap, rfl, Or.inr ⟨g, 0, rfl, (Array.getElem?_eq_some_iff.1 hg).1, fun k hk => ?_⟩, hc⟩
    have f : ∀ j, j < 3 → W.cell? ⟨g, 0 + (k * 3 + j), none⟩ = (opL (d.getD k opZ))[j]? := fun j hj => by
      have e := opsV_get d k j hk hj
      obtain ⟨u, hu⟩ : ∃ u, (opL (d.getD k opZ))[j]? = some u := ⟨_, List.getElem?_eq_getElem (by simpa [opL] using hj)⟩
      rw [hu] at e ⊢
      have := World.ownsRow.cells hh rfl (k * 3 + j) u e
      rwa [Addr.add_lit] at this
    exact ⟨f 0 (by decide), f 1 (by decide), f 2 (by decide)⟩
set_option maxRecDepth 100000 in
set_option maxHeartbeats 8000000 in
theorem Cost_at (a0 : Option Addr) (c0 : Nat) (l : List Int) (a : Option Addr) (c : Nat) (d : List Dop) (w : World) (hB : IsB w a0 c0 l) (hT : Tab w) (h : IsO w a d) (hl : d.length ≤ 4611686018427387904) (htb : ∀ o ∈ d, TbD o) (htl : ∀ o ∈ d, o.t.length ≤ 140737488351232) :
    Calls Tryd.prog 24 #[.slice a0 l.length c0, .slice a d.length c] w fun y w' => y = .returned (.tuple #[.int .i64 (costN l d).1, .int .i64 (costN l d).2]) ∧ Below w.heap.size w w' := by
  have HL := hide (Lens_at a c d w h hl)
  have HO := hide h
  have HB := hide hB
  have HT := hide hT
  have hll := hB.2.1
  clear hB hT h
  cases hv : valB d with
  | false =>
    have hc : costN l d = (0, 130) := by unfold costN; rw [hv]; rfl
    unfold lensV at HL
    rw [hv] at HL
    simp only [Bool.false_eq_true, if_false] at HL
    rw [hc]
    clear hc hv
    go_enter Tryd.func24, Tryd.ntmps24
    go_wp2_with fail
    refine (unhide HL).mono ?_
    rintro y w1 ⟨rfl, hb⟩
    dsimp only
    clear HL
    go_wp2_with fail
    exact bodyPost_ret (results_tmp2 rfl _ _ _) rfl ⟨rfl, hb⟩
  | true =>
  unfold lensV at HL
  rw [hv] at HL
  simp only [if_true] at HL
  have hnn := (valB_nn hv).2
  by_cases hf : ¬ frD d = l.length
  · have hc : costN l d = (0, 131) := by unfold costN; rw [hv, if_pos rfl, if_neg hf]
    rw [hc]
    have t1 : ((frD d : Int) != (l.length : Int)) = true := by simp; omega
    generalize frD d = F at *
    generalize toD d = G at *
    clear hc hv
    go_enter Tryd.func24, Tryd.ntmps24
    go_wp2_with fail
    refine (unhide HL).mono ?_
    rintro y w1 ⟨rfl, hb⟩
    dsimp only
    clear HL
    go_wp2_with fail
    exact bodyPost_ret (results_tmp2 rfl _ _ _) rfl ⟨rfl, hb⟩
  have hf : frD d = l.length := by omega
  obtain ⟨cs, hcs⟩ : ∃ cs, cs = (runL d).2 := ⟨_, rfl⟩
  have hch : ∀ o ∈ cs, ChO o := by rw [hcs]; exact run_ch d (0, []) htb (fun _ h => by cases h)
  have hxl : ∀ o ∈ cs, o.t.length ≤ 140737488351232 := by rw [hcs]; exact run_tl d (0, []) htl (fun _ h => by cases h)
  have hch1 : chD d = (cs, 0) := by unfold chD; rw [hv, hcs]; rfl
  have hnE : EdgP l (frD d) → True := fun _ => trivial
  have hsum : sumP stepN l cs ≤ frD d + toD d := by
    have hi := (cost_is (E := fun _ => True) (S := stepN) (l := l) stepN_nil trivial hv trivial).2
    rw [hcs, hi]
    exact sumRf_le l d 0 (valB_k hv)
  have hcl : cs.length ≤ 536870912 := by
    have h1 := runL_len d d.length (Nat.le_refl _)
    rw [List.take_length] at h1
    have h2 := val_len hv
    rw [hcs]; omega
  have hc : costN l d = if okP (EdgP l) cs then ((sumP stepN l cs : Int), 0) else (0, 4) := by unfold costN; rw [hv, if_pos rfl, if_pos hf, ← hcs]
  rw [hc]
  have HCH := hide fun (X : World) (hX : Below w.heap.size w X) => Changes_at a c d X ((unhide HO).below hX (Nat.le_refl _)) hl
  rw [hch1] at HCH
  dsimp only at HCH
  rw [hf] at HL
  clear hc hv hch1 hnE hcs HO htb hl htl
  generalize toD d = G at *
  have t0 : ((l.length : Int) != (l.length : Int)) = false := by simp
  go_enter Tryd.func24, Tryd.ntmps24
  go_wp2_with fail
  refine (unhide HL).mono ?_
  rintro y w1 ⟨rfl, hb1⟩
  dsimp only
  have HC2 := hide (unhide HCH w1 hb1)
  have HB1 := hide hb1
  clear HL HCH hb1
  go_wp2_with fail
  refine (unhide HC2).mono ?_
  rintro y w2 ⟨v, rfl, ho, hb2⟩
  dsimp only
  obtain ⟨a2, c2, rfl, hi2, _⟩ := own_isOE ho
  have HI := hide hi2
  have HB2 := hide ((unhide HB1).trans (hb2.mono (unhide HB1).size))
  have HCO := hide hch
  have HXL := hide hxl
  clear HC2 ho hi2 hb2 HB1 hch hxl
  go_wp2_with fail
  go_loopw [9, 13, 36] (fun v9 v13 v36 wx => (∃ z, v13 = z) ∧ ∃ k : Nat, v36 = .int .i64 (k : Int) ∧ k ≤ cs.length ∧ v9 = .int .i64 (sumP stepN l (cs.take k) : Int) ∧ Hid (Below w2.heap.size w2 wx ∧ okP (EdgP l) (cs.take k))) (fun _ _ v36 _ => cs.length - (intOf v36).toNat)
  case atStart => exact ⟨⟨_, rfl⟩, 0, rfl, Nat.zero_le _, rfl, hide ⟨Below.refl _ _, fun c h => by simp at h⟩⟩
  case round =>
    obtain ⟨⟨z, rfl⟩, k, rfl, hk, rfl, HX⟩ := hrel
    by_cases h1 : k < cs.length
    · have t1 : decide ((k : Int) < (cs.length : Int)) = true := decide_eq_true (by omega)
      have f1 : (k : Int) < (cs.length : Int) := by omega
      obtain ⟨hbx, hok⟩ := unhide HX
      obtain ⟨gr, offr, rfl, hgr, e0, e1, e2⟩ := ((unhide HI).below hbx (Nat.le_refl _)).three h1
      have hco := unhide HCO _ (getD_memD h1)
      have hxl := unhide HXL _ (getD_memD h1)
      have HOK := hide (okP_take (E := EdgP l) cs h1)
      have HAL := hide fun (g : okP (EdgP l) cs) => okP_pre g (k + 1)
      have hst := sumP_take l cs h1
      have hp1 := sumP_pre l cs (k + 1)
      have HXB := hide (And.intro hbx hok)
      generalize cs.getD k opZ = x at *
      obtain ⟨xk, xn, xt⟩ := x
      obtain ⟨g1, g2, g3⟩ := hco
      dsimp only at e0 e1 e2 g1 g2 g3 hst HOK hxl
      obtain ⟨lo, rfl⟩ := Int.eq_ofNat_of_zero_le g1
      obtain ⟨hi, rfl⟩ := Int.eq_ofNat_of_zero_le (show 0 ≤ xn by omega)
      simp only [Int.toNat_natCast] at hst HOK
      obtain ⟨tx, htx⟩ : ∃ tx, tx = strOfNums xt := ⟨_, rfl⟩
      rw [← htx] at e2
      have bx := (Below.refl wr.heap.size wr).alloc (Nat.le_refl _) (.cells #[.int .i64 (lo : Int), .int .i64 (hi : Int), .string tx] 71)
      have dd := (Cls.new wr 71 #[.int .i64 (lo : Int), .int .i64 (hi : Int), .string tx])
      obtain ⟨gb, hgb⟩ : ∃ gb, gb = wr.heap.size := ⟨_, rfl⟩
      rw [← hgb] at dd
      have XB : Below w.heap.size w (wr.alloc (.cells #[.int .i64 (lo : Int), .int .i64 (hi : Int), .string tx] 71)) := ((unhide HB2).trans (hbx.mono (unhide HB2).size)).trans (bx.mono ((unhide HB2).trans (hbx.mono (unhide HB2).size)).size)
      have YB : Below w2.heap.size w2 (wr.alloc (.cells #[.int .i64 (lo : Int), .int .i64 (hi : Int), .string tx] 71)) := hbx.trans (bx.mono hbx.size)
      have HTX := hide htx
      have HDD := hide dd
      have HXX := hide (And.intro XB YB)
      obtain ⟨d0, d1, d2⟩ : (wr.alloc (.cells #[.int .i64 (lo : Int), .int .i64 (hi : Int), .string tx] 71)).cell? ⟨gb, 0, none⟩ = some (.int .i64 (lo : Int)) ∧ (wr.alloc (.cells #[.int .i64 (lo : Int), .int .i64 (hi : Int), .string tx] 71)).cell? ⟨gb, 1, none⟩ = some (.int .i64 (hi : Int)) ∧ (wr.alloc (.cells #[.int .i64 (lo : Int), .int .i64 (hi : Int), .string tx] 71)).cell? ⟨gb, 2, none⟩ = some (.string tx) := ⟨(dd.cell 0).trans rfl, (dd.cell 1).trans rfl, (dd.cell 2).trans rfl⟩
      clear htx bx dd XB YB hbx hok HX g1
      go_upto_region 11 with fail
      rw [← hgb]
      generalize wr.alloc (.cells #[.int .i64 (lo : Int), .int .i64 (hi : Int), .string tx] 71) = v0 at *
      clear e0 e1 e2 hgb hgr
      have HE1 := hide (Edge_at a0 c0 (lo : Int) l v0 ((unhide HB).below (unhide HXX).1 (Nat.le_refl _)) ((unhide HT).below (unhide HXX).1 (unhide HT).size))
      cases b1 : edgeB l (lo : Int) with
      | false =>
        rw [b1] at HE1
        have hno : ¬ okP (EdgP l) cs := fun g => by
          have := ((unhide HOK).1 (unhide HAL g)).2.1
          unfold EdgP at this
          rw [b1] at this; cases this
        have HNO := hide hno
        clear hno HOK HAL hst hp1
        go_wp2_with fail
        refine (unhide HE1).mono ?_
        rintro y v1 ⟨rfl, hb⟩
        dsimp only
        have HF := hide ((unhide HXX).1.trans (hb.mono (unhide HXX).1.size))
        clear HE1 hb d0 d1 d2
        go_wp2_with fail
        refine bodyPost_ret (results_tmp2 rfl _ _ _) rfl ⟨?_, unhide HF⟩
        first | rfl | (rw [if_neg (unhide HNO)]; rfl)
      | true =>
        rw [b1] at HE1
        go_wp2_with fail
        refine (unhide HE1).mono ?_
        rintro y v1 ⟨rfl, hb⟩
        dsimp only
        have HX1 := hide (And.intro ((unhide HXX).1.trans (hb.mono (unhide HXX).1.size)) ((unhide HXX).2.trans (hb.mono (unhide HXX).2.size)))
        have HD1 := hide ((unhide HDD).below hb (unhide HDD).lt)
        obtain ⟨p0, p1, p2⟩ : v1.cell? ⟨gb, 0, none⟩ = some (.int .i64 (lo : Int)) ∧ v1.cell? ⟨gb, 1, none⟩ = some (.int .i64 (hi : Int)) ∧ v1.cell? ⟨gb, 2, none⟩ = some (.string tx) := ⟨((unhide HD1).cell 0).trans rfl, ((unhide HD1).cell 1).trans rfl, ((unhide HD1).cell 2).trans rfl⟩
        clear HE1 hb d0 d1 d2 HDD HXX
        have HE2 := hide (Edge_at a0 c0 (hi : Int) l v1 ((unhide HB).below (unhide HX1).1 (Nat.le_refl _)) ((unhide HT).below (unhide HX1).1 (unhide HT).size))
        cases b2 : edgeB l (hi : Int) with
        | false =>
          rw [b2] at HE2
          have hno : ¬ okP (EdgP l) cs := fun g => by
            have := ((unhide HOK).1 (unhide HAL g)).2.2
            unfold EdgP at this
            rw [b2] at this; cases this
          have HNO := hide hno
          clear hno HOK HAL hst hp1
          go_wp2_with fail
          refine (unhide HE2).mono ?_
          rintro y v2 ⟨rfl, hb⟩
          dsimp only
          have HF := hide ((unhide HX1).1.trans (hb.mono (unhide HX1).1.size))
          clear HE2 hb p0 p1 p2
          go_wp2_with fail
          refine bodyPost_ret (results_tmp2 rfl _ _ _) rfl ⟨?_, unhide HF⟩
          first | rfl | (rw [if_neg (unhide HNO)]; rfl)
        | true =>
          rw [b2] at HE2
          go_wp2_with fail
          refine (unhide HE2).mono ?_
          rintro y v2 ⟨rfl, hb⟩
          dsimp only
          have HX2 := hide (And.intro ((unhide HX1).1.trans (hb.mono (unhide HX1).1.size)) ((unhide HX1).2.trans (hb.mono (unhide HX1).2.size)))
          have HD2 := hide ((unhide HD1).below hb (unhide HD1).lt)
          clear HE2 hb p0 p1 p2 HD1 HX1
          have HNOK : Hid (okP (EdgP l) (cs.take (k + 1))) := hide ((unhide HOK).2 ⟨(unhide HXB).2, b1, b2⟩)
          have hhi : hi ≤ l.length := by
            have := b2
            unfold edgeB at this
            simp only [Bool.and_eq_true, decide_eq_true_eq] at this
            omega
          clear HOK HAL b1 b2 HXB
          obtain ⟨A, hA⟩ : ∃ A, (if c0 = lo then a0 else a0.map (·.add lo)) = A := ⟨_, rfl⟩
          have hcap := (unhide HB).1
          have HBT : Hid (∀ X, Below w.heap.size w X → IsB X A (c0 - lo) (subL l lo hi)) := hide fun X hX => by rw [← hA]; exact (((unhide HB).below hX (Nat.le_refl _)).loD (n := lo)).takeD (n := hi - lo)
          have htl : hi - lo = (subL l lo hi).length := by unfold subL; rw [List.length_take, List.length_drop]; omega
          generalize subL l lo hi = sb at *
          have f2 : (lo : Int) ≤ (hi : Int) := by omega
          have f3 : (hi : Int) ≤ (c0 : Int) := by omega
          have f4 : hi ≤ c0 := by omega
          have f5 : (0 : Int) ≤ (lo : Int) := by omega
          have g3l : xt.length ≤ 140737488351232 := hxl
          have n1 := stepN_le sb
          have n2 := stepN_le xt
          have hs1 : sumP stepN l (cs.take k) + (stepN sb + stepN xt) ≤ 536870912 := by omega
          have HSS : Hid (Value.int .i64 (IntKind.i64.wrap ((sumP stepN l (cs.take k) : Int) + IntKind.i64.wrap (((spots sb 0).length : Int) + ((spots xt 0).length : Int)))) = .int .i64 (sumP stepN l (cs.take (k + 1)) : Int)) := hide (by rw [hst]; congr 1; exact wrap_two _ _ _ hs1)
          have ST1 := fun (X : World) (hX : Below w.heap.size w X) => steps_at A (c0 - lo) sb X (unhide HBT X hX) ((unhide HT).below hX (unhide HT).size)
          have ST2 := fun (X Y : World) (b : Option Addr) (q : Nat) (hX : Below w.heap.size w X) (hq : IsB X b q xt) => steps_at b q xt X hq ((unhide HT).below hX (unhide HT).size)
          have HST1 := hide ST1
          have HST2 := hide ST2
          have HG3 := hide (And.intro g3 g3l)
          clear ST1 ST2 hst hp1 n1 n2 g3 g3l hhi
          go_wp2_with fail
          refine regionL (S := fun w' => w'.cell? ⟨gb, 0, none⟩ = some (.int .i64 (lo : Int)) ∧ w'.cell? ⟨gb, 1, none⟩ = some (.int .i64 (hi : Int)) ∧ w'.cell? ⟨gb, 2, none⟩ = some (.string tx)) (fun _ => false) (by kernel_rfl) ?_
          have HX3 : Hid (Below w.heap.size w v2.drew ∧ Below w2.heap.size w2 v2.drew) := hide ⟨(unhide HX2).1.drew, (unhide HX2).2.drew⟩
          have HD3 : Hid (Cls v2.drew gb 71 #[.int .i64 (lo : Int), .int .i64 (hi : Int), .string tx]) := hide (unhide HD2)
          clear HX2 HD2
          generalize v2.drew = v3 at *
          have CC : ∀ Y : World, Below v3.heap.size v3 Y → Y.cell? ⟨gb, 0, none⟩ = some (.int .i64 (lo : Int)) ∧ Y.cell? ⟨gb, 1, none⟩ = some (.int .i64 (hi : Int)) ∧ Y.cell? ⟨gb, 2, none⟩ = some (.string tx) := fun Y hY => by
            have q := (unhide HD3).below hY (unhide HD3).lt
            exact ⟨(q.cell 0).trans rfl, (q.cell 1).trans rfl, (q.cell 2).trans rfl⟩
          have HCC := hide CC
          clear CC
          refine anyL_take (i := 0) (v := ?vq0) rfl (by kernel_rfl) (by kernel_rfl) (by kernel_rfl) (by kernel_rfl) (fun _ _ _ h => h) (Or.inl ⟨by rfl, ?hq0⟩) (unhide HCC v3 (Below.refl _ _)) ?_
          case hq0 => (intro w hSw; (try dsimp only at hSw); go_simp) <;> with_reducible rfl
          simp only [Act.put, List.getElem_toArray, List.getElem_cons_zero, List.setIfInBounds_toArray, List.set_cons_zero, List.set_cons_succ]
          refine anyL_take (i := 1) (v := ?vq1) rfl (by kernel_rfl) (by kernel_rfl) (by kernel_rfl) (by kernel_rfl) (fun _ _ _ h => h) (Or.inl ⟨by rfl, ?hq1⟩) (unhide HCC v3 (Below.refl _ _)) ?_
          case hq1 => (intro w hSw; (try dsimp only at hSw); go_simp) <;> with_reducible rfl
          simp only [Act.put, List.getElem_toArray, List.getElem_cons_zero, List.getElem_cons_succ, List.setIfInBounds_toArray, List.set_cons_zero, List.set_cons_succ]
          refine anyL_take (i := 2) (v := ?vq2) rfl (by kernel_rfl) (by kernel_rfl) (by kernel_rfl) (by kernel_rfl) (fun _ _ _ h => h) (Or.inl ⟨by rfl, ?hq2⟩) (unhide HCC v3 (Below.refl _ _)) ?_
          case hq2 => (intro w hSw; (try dsimp only at hSw); go_simp) <;> with_reducible rfl
          simp only [Act.put, List.getElem_toArray, List.getElem_cons_zero, List.getElem_cons_succ, List.setIfInBounds_toArray, List.set_cons_zero, List.set_cons_succ]
          refine anyL_take (i := 3) (v := ?vq3) rfl (by kernel_rfl) (by kernel_rfl) (by kernel_rfl) (by kernel_rfl) (fun _ _ _ h => h) (Or.inl ⟨by rfl, ?hq3⟩) (unhide HCC v3 (Below.refl _ _)) ?_
          case hq3 => (intro w hSw; (try dsimp only at hSw); go_simp) <;> with_reducible rfl
          simp only [Act.put, List.getElem_toArray, List.getElem_cons_zero, List.getElem_cons_succ, List.setIfInBounds_toArray, List.set_cons_zero, List.set_cons_succ]
          refine anyL_take (i := 4) (v := ?vq4) rfl (by kernel_rfl) (by kernel_rfl) (by kernel_rfl) (by kernel_rfl) (fun _ _ _ h => h) (Or.inl ⟨by rfl, ?hq4⟩) (unhide HCC v3 (Below.refl _ _)) ?_
          case hq4 => (intro w hSw; (try dsimp only at hSw); go_simp) <;> with_reducible rfl
          simp only [Act.put, List.getElem_toArray, List.getElem_cons_zero, List.getElem_cons_succ, List.setIfInBounds_toArray, List.set_cons_zero, List.set_cons_succ]
          refine anyL_take (i := 5) (v := ?vq5) rfl (by kernel_rfl) (by kernel_rfl) (by kernel_rfl) (by kernel_rfl) (fun _ _ _ h => h) (Or.inl ⟨by rfl, ?hq5⟩) (unhide HCC v3 (Below.refl _ _)) ?_
          case hq5 => (intro w hSw; (try dsimp only at hSw); go_simp) <;> with_reducible rfl
          simp only [Act.put, List.getElem_toArray, List.getElem_cons_zero, List.getElem_cons_succ, List.setIfInBounds_toArray, List.set_cons_zero, List.set_cons_succ]
          refine anyL_take (i := 6) (v := ?vq6) rfl (by kernel_rfl) (by kernel_rfl) (by kernel_rfl) (by kernel_rfl) (fun _ _ _ h => h) (Or.inl ⟨by rfl, ?hq6⟩) (unhide HCC v3 (Below.refl _ _)) ?_
          case hq6 => (intro w hSw; (try dsimp only at hSw); go_simp) <;> with_reducible rfl
          simp only [Act.put, List.getElem_toArray, List.getElem_cons_zero, List.getElem_cons_succ, List.setIfInBounds_toArray, List.set_cons_zero, List.set_cons_succ]
          refine anyL_take (i := 8) (v := ?vq7) rfl (by kernel_rfl) (by kernel_rfl) (by kernel_rfl) (by kernel_rfl) (fun _ _ _ h => h) (Or.inl ⟨by rfl, ?hq7⟩) (unhide HCC v3 (Below.refl _ _)) ?_
          case hq7 => (intro w hSw; (try dsimp only at hSw); go_simp) <;> with_reducible rfl
          simp only [Act.put, List.getElem_toArray, List.getElem_cons_zero, List.getElem_cons_succ, List.setIfInBounds_toArray, List.set_cons_zero, List.set_cons_succ]
          refine anyL_take (i := 9) (v := ?vq8) rfl (by kernel_rfl) (by kernel_rfl) (by kernel_rfl) (by kernel_rfl) (fun _ _ _ h => h) (Or.inl ⟨by rfl, ?hq8⟩) (unhide HCC v3 (Below.refl _ _)) ?_
          case hq8 => (intro w hSw; (try dsimp only at hSw); go_simp) <;> with_reducible rfl
          simp only [Act.put, List.getElem_toArray, List.getElem_cons_zero, List.getElem_cons_succ, List.setIfInBounds_toArray, List.set_cons_zero, List.set_cons_succ]
          have B0 := Below.refl v3.heap.size v3
          refine anyL_ready (rs := [7, 10]) (by kernel_rfl) (by simp) ?_
          refine AllL.cons rfl (fun K hK => ?_) (AllL.cons rfl (fun K hK => ?_) AllL.nil)
          · skip
            go_simp
            refine (unhide HST1 v3 ((unhide HX3).1.trans (B0.mono (unhide HX3).1.size))).mono ?_
            rintro y u1 ⟨rfl, bu1⟩
            have Bu1 := B0.trans (bu1.mono B0.size)
            refine unhide hK _ _ (fun _ => unhide HCC _ Bu1) ?_
            clear hK K
            refine anyL_ready (rs := [10]) (by kernel_rfl) (by simp) ?_
            refine AllL.cons rfl (fun K hK => ?_) AllL.nil
            obtain ⟨cq, u2, rc, ib, bu2⟩ := run_toBytesC u1 xt (unhide HG3).1 (unhide HG3).2
            rw [← unhide HTX] at rc
            have Bu2 := Bu1.trans (bu2.mono Bu1.size)
            go_simp
            refine unhide hK _ _ (fun _ => unhide HCC _ Bu2) ?_
            clear hK K rc
            refine anyL_ready (rs := [11]) (by kernel_rfl) (by simp) ?_
            refine AllL.cons rfl (fun K hK => ?_) AllL.nil
            go_simp
            refine (unhide HST2 u2 u2 _ cq ((unhide HX3).1.trans (Bu2.mono (unhide HX3).1.size)) ib).mono ?_
            rintro y u3 ⟨rfl, bu3⟩
            have Bu3 := Bu2.trans (bu3.mono Bu2.size)
            refine unhide hK _ _ (fun _ => unhide HCC _ Bu3) ?_
            clear hK K
            refine anyL_take (i := 12) (v := ?vq9) rfl (by kernel_rfl) (by kernel_rfl) (by kernel_rfl) (by kernel_rfl) (fun _ _ _ h => h) (Or.inl ⟨by rfl, ?hq9⟩) (unhide HCC _ Bu3) ?_
            case hq9 => (intro w hSw; (try dsimp only at hSw); go_simp) <;> with_reducible rfl
            simp only [Act.put, List.getElem_toArray, List.getElem_cons_zero, List.getElem_cons_succ, List.setIfInBounds_toArray, List.set_cons_zero, List.set_cons_succ]
            refine anyL_take (i := 13) (v := ?vq10) rfl (by kernel_rfl) (by kernel_rfl) (by kernel_rfl) (by kernel_rfl) (fun _ _ _ h => h) (Or.inl ⟨by rfl, ?hq10⟩) (unhide HCC _ Bu3) ?_
            case hq10 => (intro w hSw; (try dsimp only at hSw); go_simp) <;> with_reducible rfl
            simp only [Act.put, List.getElem_toArray, List.getElem_cons_zero, List.getElem_cons_succ, List.setIfInBounds_toArray, List.set_cons_zero, List.set_cons_succ]
            refine anyL_take (i := 14) (v := ?vq11) rfl (by kernel_rfl) (by kernel_rfl) (by kernel_rfl) (by kernel_rfl) (fun _ _ _ h => h) (Or.inl ⟨by rfl, ?hq11⟩) (unhide HCC _ Bu3) ?_
            case hq11 => (intro w hSw; (try dsimp only at hSw); go_simp) <;> with_reducible rfl
            simp only [Act.put, List.getElem_toArray, List.getElem_cons_zero, List.getElem_cons_succ, List.setIfInBounds_toArray, List.set_cons_zero, List.set_cons_succ]
            refine anyL_done (by kernel_rfl) ?_ _
            have HNX := hide ((unhide HX3).2.trans (Bu3.mono (unhide HX3).2.size))
            go_wp2_with fail
            go_roundw
            case rel => exact ⟨⟨_, rfl⟩, k + 1, by go_num, h1, unhide HSS, hide ⟨unhide HNX, unhide HNOK⟩⟩
            case measure => simp [intOf]; omega
          · skip
            obtain ⟨cq, u1, rc, ib, bu1⟩ := run_toBytesC v3 xt (unhide HG3).1 (unhide HG3).2
            rw [← unhide HTX] at rc
            have Bu1 := B0.trans (bu1.mono B0.size)
            go_simp
            refine unhide hK _ _ (fun _ => unhide HCC _ Bu1) ?_
            clear hK K rc
            refine anyL_ready (rs := [7]) (by kernel_rfl) (by simp) ?_
            refine AllL.cons rfl (fun K hK => ?_) AllL.nil
            go_simp
            refine (unhide HST1 u1 ((unhide HX3).1.trans (Bu1.mono (unhide HX3).1.size))).mono ?_
            rintro y u2 ⟨rfl, bu2⟩
            have Bu2 := Bu1.trans (bu2.mono Bu1.size)
            refine unhide hK _ _ (fun _ => unhide HCC _ Bu2) ?_
            clear hK K
            refine anyL_ready (rs := [11]) (by kernel_rfl) (by simp) ?_
            refine AllL.cons rfl (fun K hK => ?_) AllL.nil
            go_simp
            refine (unhide HST2 u2 u2 _ cq ((unhide HX3).1.trans (Bu2.mono (unhide HX3).1.size)) (ib.below bu2 (Nat.le_refl _))).mono ?_
            rintro y u3 ⟨rfl, bu3⟩
            have Bu3 := Bu2.trans (bu3.mono Bu2.size)
            refine unhide hK _ _ (fun _ => unhide HCC _ Bu3) ?_
            clear hK K
            refine anyL_take (i := 12) (v := ?vq12) rfl (by kernel_rfl) (by kernel_rfl) (by kernel_rfl) (by kernel_rfl) (fun _ _ _ h => h) (Or.inl ⟨by rfl, ?hq12⟩) (unhide HCC _ Bu3) ?_
            case hq12 => (intro w hSw; (try dsimp only at hSw); go_simp) <;> with_reducible rfl
            simp only [Act.put, List.getElem_toArray, List.getElem_cons_zero, List.getElem_cons_succ, List.setIfInBounds_toArray, List.set_cons_zero, List.set_cons_succ]
            refine anyL_take (i := 13) (v := ?vq13) rfl (by kernel_rfl) (by kernel_rfl) (by kernel_rfl) (by kernel_rfl) (fun _ _ _ h => h) (Or.inl ⟨by rfl, ?hq13⟩) (unhide HCC _ Bu3) ?_
            case hq13 => (intro w hSw; (try dsimp only at hSw); go_simp) <;> with_reducible rfl
            simp only [Act.put, List.getElem_toArray, List.getElem_cons_zero, List.getElem_cons_succ, List.setIfInBounds_toArray, List.set_cons_zero, List.set_cons_succ]
            refine anyL_take (i := 14) (v := ?vq14) rfl (by kernel_rfl) (by kernel_rfl) (by kernel_rfl) (by kernel_rfl) (fun _ _ _ h => h) (Or.inl ⟨by rfl, ?hq14⟩) (unhide HCC _ Bu3) ?_
            case hq14 => (intro w hSw; (try dsimp only at hSw); go_simp) <;> with_reducible rfl
            simp only [Act.put, List.getElem_toArray, List.getElem_cons_zero, List.getElem_cons_succ, List.setIfInBounds_toArray, List.set_cons_zero, List.set_cons_succ]
            refine anyL_done (by kernel_rfl) ?_ _
            have HNX := hide ((unhide HX3).2.trans (Bu3.mono (unhide HX3).2.size))
            go_wp2_with fail
            go_roundw
            case rel => exact ⟨⟨_, rfl⟩, k + 1, by go_num, h1, unhide HSS, hide ⟨unhide HNX, unhide HNOK⟩⟩
            case measure => simp [intOf]; omega
    · have t1 : decide ((k : Int) < (cs.length : Int)) = false := decide_eq_false (by omega)
      have hok := (unhide HX).2
      have HXB := hide (unhide HX).1
      rw [List.take_of_length_le (by omega)] at hok ⊢
      have HOK := hide hok
      clear hok HX
      go_wp2_with fail
      refine bodyPost_ret (results_tmp2 rfl _ _ _) rfl ⟨?_, (unhide HB2).trans ((unhide HXB).mono (unhide HB2).size)⟩
      first | rfl | (rw [if_pos (unhide HOK)]; rfl)
end Go.Proofs.YtkdnanlgkedjgaaDoor
end

section
namespace Go.Proofs.YtkdnanlgkedjgaaDoor

section
variable {α : Type} [DecidableEq α]
/-- lcs, mids by a bound -/
def lcsF : Nat → List α → List α → Nat
  | 0, _, _ => 0
  | _ + 1, [], _ => 0
  | _ + 1, _ :: _, [] => 0
  | n + 1, a :: x, b :: y => if a = b then lcsF n x y + 1 else max (lcsF n x (b :: y)) (lcsF n (a :: x) y)
theorem lcsF_is : ∀ (n : Nat) (x y : List α), x.length + y.length < n → lcsF n x y = lcs x y
  | 0, _, _, h => by omega
  | n + 1, [], y, _ => by simp [lcsF, lcs]
  | n + 1, a :: x, [], _ => by simp [lcsF, lcs]
  | n + 1, a :: x, b :: y, h => by
    simp only [List.length_cons] at h
    unfold lcsF
    by_cases e : a = b
    · subst e; rw [if_pos rfl, lcs_same, lcsF_is n x y (by omega)]
    · rw [if_neg e, lcs_ne e, lcsF_is n x (b :: y) (by simp; omega), lcsF_is n (a :: x) y (by simp; omega)]
def midsF : Nat → List α → List α → Nat → Nat → List (Nat × Nat)
  | 0, _, _, _, _ => []
  | _ + 1, [], _, _, _ => []
  | _ + 1, _ :: _, [], _, _ => []
  | n + 1, a :: x, b :: y, i, j => if a = b then (i, j) :: midsF n x y (i + 1) (j + 1) else if lcsF (n + 1) (a :: x) y ≤ lcsF (n + 1) x (b :: y) then midsF n x (b :: y) (i + 1) j else midsF n (a :: x) y i (j + 1)
theorem midsF_is : ∀ (n : Nat) (x y : List α) (i j : Nat), x.length + y.length < n → midsF n x y i j = mids x y i j
  | 0, _, _, _, _, h => by omega
  | n + 1, [], y, _, _, _ => by simp [midsF, mids]
  | n + 1, a :: x, [], _, _, _ => by simp [midsF, mids]
  | n + 1, a :: x, b :: y, i, j, h => by
    simp only [List.length_cons] at h
    unfold midsF
    by_cases e : a = b
    · subst e; rw [if_pos rfl, mids_same, midsF_is n x y _ _ (by omega)]
    · rw [if_neg e, lcsF_is (n + 1) (a :: x) y (by simp; omega), lcsF_is (n + 1) x (b :: y) (by simp; omega)]
      by_cases g : lcs (a :: x) y ≤ lcs x (b :: y)
      · rw [if_pos g, mids_up e g, midsF_is n x (b :: y) _ _ (by simp; omega)]
      · rw [if_neg g, mids_on e g, midsF_is n (a :: x) y _ _ (by simp; omega)]
def runsF (x y : List α) : List (Nat × Nat × Nat) :=
  let h := sameH x y
  let t := sameH (x.drop h).reverse (y.drop h).reverse
  let x' := (x.drop h).take ((x.drop h).length - t)
  let y' := (y.drop h).take ((y.drop h).length - t)
  [(0, 0, h)] ++ (midsF (x'.length + y'.length + 1) x' y' h h).map (fun p => (p.1, p.2, 1)) ++ [(h + x'.length, h + y'.length, t)]
theorem runsF_is (x y : List α) : runsF x y = runsL x y := by
  unfold runsF runsL
  simp only []
  rw [midsF_is _ _ _ _ _ (Nat.lt_succ_self _)]
end
def kitT : List Int := [107, 105, 116, 116, 101, 110]
def sitT : List Int := [115, 105, 116, 116, 105, 110, 103]
def abcT : List Int := [97, 98, 99]
def abxT : List Int := [97, 98, 120, 99]
def abnT : List Int := [97, 10, 98, 10, 99]
def acnT : List Int := [97, 10, 99]
def d4T : List Dop := [⟨1, 1, []⟩, ⟨2, 0, [195, 169]⟩, ⟨3, 1, []⟩, ⟨1, 1, []⟩]
theorem wk_kit : cutS kitT = [0, 1, 2, 3, 4, 5, 6] := by decide
theorem wk_sit : cutS sitT = [0, 1, 2, 3, 4, 5, 6, 7] := by decide
theorem wk_abc : cutS abcT = [0, 1, 2, 3] := by decide
theorem wk_abx : cutS abxT = [0, 1, 2, 3, 4] := by decide
theorem wk_abn : cutN abnT = [0, 2, 4, 5] := by decide
theorem wk_acn : cutN acnT = [0, 2, 3] := by decide
theorem wk_1 : aloN cutS kitT sitT = 5 := by
  unfold aloN
  rw [wk_kit, wk_sit, ← lcsF_is 14 _ _ (by decide)]
  decide
theorem wk_2 : leastD abcT abxT (cutS abcT) (cutS abxT) = [⟨1, 2, []⟩, ⟨2, 0, [120]⟩, ⟨1, 1, []⟩] := by
  unfold leastD
  rw [wk_abc, wk_abx, ← runsF_is]
  decide
theorem wk_3 : leastD abnT acnT (cutN abnT) (cutN acnT) = [⟨1, 2, []⟩, ⟨3, 2, []⟩, ⟨1, 1, []⟩] := by
  unfold leastD
  rw [wk_abn, wk_acn, ← runsF_is]
  decide
theorem wk_4 : costN abcT d4T = (2, 0) := by decide
end Go.Proofs.YtkdnanlgkedjgaaDoor
end

section
namespace Go.Proofs.YtkdnanlgkedjgaaDoor
open Go.ChangeShapes Go.WideShapes Go.ChangeAt Go.RowKit
attribute [local go_sem] Oper.semAt_some

set_option maxRecDepth 100000 in
set_option maxHeartbeats 2000000 in
theorem RSameD_at (a : Option Addr) (c : Nat) (d : List Dop) (a' : Option Addr) (c' : Nat) (e : List Dop) (w : World) (h : IsO w a d) (h' : IsO w a' e) (hl : d.length ≤ 4611686018427387904) (_hl' : e.length ≤ 4611686018427387904) (hb : ∀ o ∈ d, TbD o) (hb' : ∀ o ∈ e, TbD o) :
    Calls Tryd.prog 16 #[.slice a d.length c, .slice a' e.length c'] w fun y w' => y = .returned (.bool (decide (d = e))) ∧ Below w.heap.size w w' := by
  have HO := hide fun (X : World) (hx : Below w.heap.size w X) => h.below hx (Nat.le_refl _)
  have HO' := hide fun (X : World) (hx : Below w.heap.size w X) => h'.below hx (Nat.le_refl _)
  by_cases hlen : d.length = e.length
  case neg =>
    have HV : Hid (decide (d = e) = false) := hide (decide_eq_false fun he => hlen (by rw [he]))
    have t1 : ((d.length : Int) != (e.length : Int)) = true := by simp; omega
    have t2 : ¬ d.length = e.length := hlen
    have t3 : (d.length == e.length) = false := by simpa using hlen
    clear h h' hb hb' hlen HO HO'
    rw [unhide HV]
    go_enter Tryd.func16, Tryd.ntmps16
    go_wp2_with fail
    refine bodyPost_ret (results_tmp rfl _ _ _) rfl ⟨rfl, Below.refl _ _⟩
  obtain ⟨V, hV⟩ : ∃ V, V = decide (d = e) := ⟨_, rfl⟩
  rw [← hV]
  have HV := hide hV
  have HL := hide hlen
  have HBB := hide (And.intro hb hb')
  obtain ⟨N, hN⟩ : ∃ N, N = d.length := ⟨_, rfl⟩
  have hN' : N = e.length := by rw [hN, hlen]
  have HN := hide (And.intro hN hN')
  rw [← hN, ← hN']
  have hNl : N ≤ 4611686018427387904 := by omega
  clear h h' hb hb' hlen hV hN hN' hl
  go_enter Tryd.func16, Tryd.ntmps16
  go_wp2_with fail
  go_loopw [5] (fun v5 wx => (∃ k : Nat, v5 = .int .i64 (k : Int) ∧ k ≤ N ∧ Hid (d.take k = e.take k)) ∧ Hid (Below w.heap.size w wx)) (fun v5 _ => N - (intOf v5).toNat)
  case atStart => exact ⟨⟨0, rfl, Nat.zero_le _, hide rfl⟩, hide (Below.refl _ _)⟩
  case round =>
    obtain ⟨⟨k, rfl, hk, HK⟩, HB⟩ := hrel
    by_cases hlt : k < N
    · have t1 : decide ((k : Int) < (N : Int)) = true := decide_eq_true (by omega)
      have hd1 : k < d.length := by rw [← (unhide HN).1]; exact hlt
      have he1 : k < e.length := by rw [← (unhide HN).2]; exact hlt
      obtain ⟨g, off, rfl, hg, c0, c1, c2⟩ := (unhide HO wr (unhide HB)).three hd1
      obtain ⟨g', off', rfl, hg', e0, e1, e2⟩ := (unhide HO' wr (unhide HB)).three he1
      have HQ := hide (op_neq ((unhide HBB).1 _ (getD_memE hd1)) ((unhide HBB).2 _ (getD_memE he1)))
      have HTK := hide (take_eqD hd1 he1 (unhide HK))
      have HNE : Hid (d.getD k opZ ≠ e.getD k opZ → d ≠ e) := hide fun h1 h2 => h1 (by rw [h2])
      generalize d.getD k opZ = x at *
      generalize e.getD k opZ = y at *
      obtain ⟨xk, xn, xt⟩ := x
      obtain ⟨yk, yn, yt⟩ := y
      dsimp only at c0 c1 c2 e0 e1 e2 HQ
      generalize hst : strOfNums xt = st at *
      generalize hsu : strOfNums yt = su at *
      have HST := hide hst
      have HSU := hide hsu
      clear hst hsu
      clear hd1 he1 hg hg' HK
      have HB1 := hide (unhide HB).drew
      clear HB
      rcases unhide HQ with hxy | ⟨hxy, hq⟩
      · have HK2 := hide (unhide HTK hxy)
        cases hxy
        have hst : st = su := by rw [← unhide HST, ← unhide HSU]
        subst hst
        clear HTK HNE HQ HST HSU
        go_upto_region 6 with fail
        go_region
        go_wp2_with fail
        go_roundw
        case rel => exact ⟨⟨k + 1, by go_num, hlt, HK2⟩, HB1⟩
        case measure => simp [intOf]; omega
      · have HV2 : Hid (V = false) := hide (by rw [unhide HV]; exact decide_eq_false (unhide HNE hxy))
        clear HTK HNE HQ hxy HST HSU
        rcases hq with hq | ⟨rfl, hq⟩ | ⟨rfl, rfl, hq⟩
        all_goals
          go_upto_region 6 with fail
          go_region
          go_wp2_with fail
          rw [unhide HV2]
          refine bodyPost_ret (results_tmp rfl _ _ _) rfl ⟨rfl, unhide HB1⟩
    · obtain rfl : k = N := by omega
      have t1 : decide ((k : Int) < (k : Int)) = false := decide_eq_false (by omega)
      have HV2 : Hid (V = true) := hide (by
        rw [unhide HV]
        refine decide_eq_true ?_
        have := unhide HK
        rw [(unhide HN).1, List.take_length, ← (unhide HN).1, (unhide HN).2, List.take_length] at this
        exact this)
      clear HK hk
      go_wp2_with fail
      rw [unhide HV2]
      refine bodyPost_ret (results_tmp rfl _ _ _) rfl ⟨rfl, unhide HB⟩
theorem lit_isOD (X : World) (ds : List Dop) (cs : Array Value) (h : cs.toList = opsV ds) : IsO (X.alloc (.cells cs 38)) (some ⟨X.heap.size, 0, none⟩) ds := by
  refine Or.inr ⟨_, _, rfl, by simp, fun k hk => ?_⟩
  have f : ∀ j, (X.alloc (.cells cs 38)).cell? ⟨X.heap.size, j, none⟩ = cs[j]? := fun j => World.cell?_alloc_mark X _ _ (0, 0) j
  have g : ∀ j, j < 3 → cs[k * 3 + j]? = (opL (ds.getD k opZ))[j]? := fun j hj => by
    rw [← opsV_get ds k j hk hj, ← h, Array.getElem?_toList]
  refine ⟨?_, ?_, ?_⟩
  · rw [Nat.zero_add, f]; exact g 0 (by decide)
  · rw [Nat.zero_add, f]; exact g 1 (by decide)
  · rw [Nat.zero_add, f]; exact g 2 (by decide)
set_option maxRecDepth 100000 in
theorem own19_at (a0 : Option Addr) (cap : Nat) (l : List Int) (w : World) (hB : IsB w a0 cap l) :
    Calls Tryd.prog 12 #[.slice a0 l.length cap] w fun e w' => ∃ a' c', e = .returned (.slice a' l.length c') ∧ IsB w' a' c' l ∧ Below w.heap.size w w' := by
  obtain ⟨a1, c1, w1, r1, x1, y1, z1⟩ := run_copy w a0 cap l 22 hB
  have R1 := hide r1
  clear r1
  go_enter Tryd.func12, Tryd.ntmps12
  go_wp2_with (at_builtin; refine wpList_append_known rfl _ _ 22 22 rfl _ _ rfl rfl _ _ (unhide R1) ?_)
  go_ret
  exact ⟨a1, c1, rfl, ⟨x1, hB.2.1, y1, hB.2.2.2⟩, z1⟩
theorem long19_at (a : Option Addr) (n c : Nat) (a' : Option Addr) (n' c' : Nat) (w : World) : Calls Tryd.prog 10 #[.slice a n c, .slice a' n' c'] w fun e w' => e = .returned (.bool (decide (700 < n ∨ 700 < n'))) ∧ w' = w := by
  by_cases h : 700 < n
  · have t1 : decide ((n : Int) > 700) = true := decide_eq_true (by omega)
    rw [decide_eq_true (Or.inl h)]
    go_enter Tryd.func10, Tryd.ntmps10
    go_wp2_with fail
    go_ret
    exact ⟨rfl, rfl⟩
  · have t1 : decide ((n : Int) > 700) = false := decide_eq_false (by omega)
    by_cases h' : 700 < n'
    · have t2 : decide ((n' : Int) > 700) = true := decide_eq_true (by omega)
      rw [decide_eq_true (Or.inr h')]
      go_enter Tryd.func10, Tryd.ntmps10
      go_wp2_with fail
      go_ret
      exact ⟨rfl, rfl⟩
    · have t2 : decide ((n' : Int) > 700) = false := decide_eq_false (by omega)
      rw [decide_eq_false (by omega : ¬ (700 < n ∨ 700 < n'))]
      go_enter Tryd.func10, Tryd.ntmps10
      go_wp2_with fail
      go_ret
      exact ⟨rfl, rfl⟩
/-- bytes written out -/
theorem lit_isBD (X : World) (l : List Int) (m : Nat × Nat) (hb : ∀ x ∈ l, 0 ≤ x ∧ x ≤ 255) (hl : l.length ≤ 140737488351232) : IsB (X.alloc (.cells (l.map (Value.int .u8)).toArray 5 m)) (some ⟨X.heap.size, 0, none⟩) l.length l := by
  refine IsB.of (fun i hi => ⟨?_, ?_⟩) (Nat.le_refl _) hl
  · rw [Nat.zero_add]
    refine (World.cell?_alloc_mark X _ 5 m i).trans ?_
    simp [List.getD, List.getElem?_eq_getElem hi]
  · have := hb _ (List.getElem_mem hi)
    simpa [List.getD, List.getElem?_eq_getElem hi] using this
theorem conv_litD (w : World) (C : Array Value) (n : Nat) : (convert 22 22 (.slice (some ⟨w.heap.size, 0, none⟩) n n)).run Tryd.prog (w.alloc (.cells C 5)) = .ok (.slice (some ⟨w.heap.size, 0, none⟩) n n) (w.alloc (.cells C 5 (C.size, C.size + 1))) :=
  Lib.run_convert_bytes_const w 22 5 C n n Tryd.underlying22 Tryd.underlying5
set_option maxRecDepth 100000 in
set_option maxHeartbeats 8000000 in
theorem wakes19_at (w : World) (hT : Tab w) : Calls Tryd.prog 9 #[] w fun e w' => e = .returned (.bool true) ∧ Below w.heap.size w w' := by
  have HT := hide hT
  have b1 := (Below.refl w.heap.size w).alloc (Nat.le_refl _) (.cells (kitT.map (Value.int .u8)).toArray 5 (6, 7))
  have b2 := b1.alloc b1.size (.cells (sitT.map (Value.int .u8)).toArray 5 (7, 8))
  have i1 := (lit_isBD w kitT (6, 7) (by decide) (by decide)).below ((Below.refl _ _).alloc (Nat.le_refl _) (.cells (sitT.map (Value.int .u8)).toArray 5 (7, 8))) (Nat.le_refl _)
  have i2 := lit_isBD (w.alloc (.cells (kitT.map (Value.int .u8)).toArray 5 (6, 7))) sitT (7, 8) (by decide) (by decide)
  have HD := hide (Distance_at _ _ kitT _ _ sitT _ i1 i2 (hT.below b2 hT.size))
  have HB2 := hide b2
  rw [World.size_alloc] at HD
  clear b1 b2 i1 i2 hT
  have cv1 := conv_litD w #[.int .u8 107, .int .u8 105, .int .u8 116, .int .u8 116, .int .u8 101, .int .u8 110] 6
  have cv2 := conv_litD (w.alloc (.cells #[.int .u8 107, .int .u8 105, .int .u8 116, .int .u8 116, .int .u8 101, .int .u8 110] 5 (6, 7))) #[.int .u8 115, .int .u8 105, .int .u8 116, .int .u8 116, .int .u8 105, .int .u8 110, .int .u8 103] 7
  rw [World.size_alloc] at cv2
  simp only [List.size_toArray, List.length_cons, List.length_nil, Nat.reduceAdd] at cv1 cv2
  go_enter Tryd.func9, Tryd.ntmps9
  go_wp2_with fail
  refine (unhide HD).mono ?_
  rintro y w1 ⟨hb1, ⟨hno, _⟩ | ⟨_, _, rfl⟩⟩
  · exact absurd ⟨by rw [wk_kit]; decide, by rw [wk_sit]; decide⟩ hno
  rw [wk_1]
  dsimp only
  have HB3 := hide ((unhide HB2).trans (hb1.mono (unhide HB2).size))
  clear HD HB2 hb1
  have b4 := (unhide HB3).alloc (unhide HB3).size (.cells (abcT.map (Value.int .u8)).toArray 5 (3, 4))
  have b5 := b4.alloc b4.size (.cells (abxT.map (Value.int .u8)).toArray 5 (4, 5))
  have i3 := (lit_isBD w1 abcT (3, 4) (by decide) (by decide)).below ((Below.refl _ _).alloc (Nat.le_refl _) (.cells (abxT.map (Value.int .u8)).toArray 5 (4, 5))) (Nat.le_refl _)
  have i4 := lit_isBD (w1.alloc (.cells (abcT.map (Value.int .u8)).toArray 5 (3, 4))) abxT (4, 5) (by decide) (by decide)
  have HL := hide (Least_at _ _ abcT _ _ abxT _ i3 i4 ((unhide HT).below b5 (unhide HT).size) (by decide) (by decide))
  have HB5 := hide b5
  rw [World.size_alloc] at HL
  clear b4 b5 i3 i4 HB3 cv1 cv2
  have cv1 := conv_litD w1 #[.int .u8 97, .int .u8 98, .int .u8 99] 3
  have cv2 := conv_litD (w1.alloc (.cells #[.int .u8 97, .int .u8 98, .int .u8 99] 5 (3, 4))) #[.int .u8 97, .int .u8 98, .int .u8 120, .int .u8 99] 4
  rw [World.size_alloc] at cv2
  simp only [List.size_toArray, List.length_cons, List.length_nil, Nat.reduceAdd] at cv1 cv2
  go_wp2_with fail
  refine (unhide HL).mono ?_
  rintro y w2 ⟨hb2, ⟨hno, _⟩ | ⟨_, _, v3, rfl, ho3⟩⟩
  · exact absurd ⟨by rw [wk_abc]; decide, by rw [wk_abx]; decide⟩ hno
  rw [wk_2] at ho3
  obtain ⟨a3, c3, rfl, hi3, _⟩ := own_isOE ho3
  dsimp only
  have HB6 := hide ((unhide HB5).trans (hb2.mono (unhide HB5).size))
  have HO3 := hide hi3
  clear HL HB5 hb2 ho3 hi3
  have b7 := (unhide HB6).alloc (unhide HB6).size (.cells (abnT.map (Value.int .u8)).toArray 5 (5, 6))
  have b8 := b7.alloc b7.size (.cells (acnT.map (Value.int .u8)).toArray 5 (3, 4))
  have e7 := (Below.refl w2.heap.size w2).alloc (Nat.le_refl _) (.cells (abnT.map (Value.int .u8)).toArray 5 (5, 6))
  have e8 := e7.alloc e7.size (.cells (acnT.map (Value.int .u8)).toArray 5 (3, 4))
  have i5 := (lit_isBD w2 abnT (5, 6) (by decide) (by decide)).below ((Below.refl _ _).alloc (Nat.le_refl _) (.cells (acnT.map (Value.int .u8)).toArray 5 (3, 4))) (Nat.le_refl _)
  have i6 := lit_isBD (w2.alloc (.cells (abnT.map (Value.int .u8)).toArray 5 (5, 6))) acnT (3, 4) (by decide) (by decide)
  have HL := hide (LinesD_at _ _ abnT _ _ acnT _ i5 i6 (by decide) (by decide))
  have HB8 := hide b8
  have HE8 := hide e8
  rw [World.size_alloc] at HL
  clear b7 b8 e7 e8 i5 i6 HB6 cv1 cv2
  have cv1 := conv_litD w2 #[.int .u8 97, .int .u8 10, .int .u8 98, .int .u8 10, .int .u8 99] 5
  have cv2 := conv_litD (w2.alloc (.cells #[.int .u8 97, .int .u8 10, .int .u8 98, .int .u8 10, .int .u8 99] 5 (5, 6))) #[.int .u8 97, .int .u8 10, .int .u8 99] 3
  rw [World.size_alloc] at cv2
  simp only [List.size_toArray, List.length_cons, List.length_nil, Nat.reduceAdd] at cv1 cv2
  go_wp2_with fail
  refine (unhide HL).mono ?_
  rintro y w3 ⟨hb3, ⟨hno, _⟩ | ⟨_, _, v5, rfl, ho5⟩⟩
  · exact absurd ⟨by rw [wk_abn]; decide, by rw [wk_acn]; decide⟩ hno
  rw [wk_3] at ho5
  obtain ⟨a5, c5, rfl, hi5, _⟩ := own_isOE ho5
  dsimp only
  have HB9 := hide ((unhide HB8).trans (hb3.mono (unhide HB8).size))
  have HE9 := hide ((unhide HE8).trans (hb3.mono (unhide HE8).size))
  have HO5 := hide hi5
  have HO4 := hide ((unhide HO3).below (unhide HE9) (Nat.le_refl _))
  clear HL HB8 HE8 hb3 ho5 hi5 HO3
  have b10 := (unhide HB9).alloc (unhide HB9).size (.cells (abcT.map (Value.int .u8)).toArray 5 (3, 4))
  have e10 := (Below.refl w3.heap.size w3).alloc (Nat.le_refl _) (.cells (abcT.map (Value.int .u8)).toArray 5 (3, 4))
  have b11 := b10.alloc b10.size (.cells (opsV d4T).toArray 38)
  have e11 := e10.alloc e10.size (.cells (opsV d4T).toArray 38)
  have i7 := (lit_isBD w3 abcT (3, 4) (by decide) (by decide)).below ((Below.refl _ _).alloc (Nat.le_refl _) (.cells (opsV d4T).toArray 38)) (Nat.le_refl _)
  have i8 := lit_isOD (w3.alloc (.cells (abcT.map (Value.int .u8)).toArray 5 (3, 4))) d4T (opsV d4T).toArray (by simp)
  have HC := hide (Cost_at _ _ abcT _ 4 d4T _ i7 ((unhide HT).below b11 (unhide HT).size) i8 (by decide) (by unfold TbD; decide) (by decide))
  rw [wk_4, World.size_alloc] at HC
  have HB11 := hide b11
  have HE11 := hide e11
  clear b10 e10 b11 e11 i7 i8 HB9 cv1 cv2
  have cv1 := conv_litD w3 #[.int .u8 97, .int .u8 98, .int .u8 99] 3
  simp only [List.size_toArray, List.length_cons, List.length_nil, Nat.reduceAdd] at cv1
  go_wp2_with fail
  refine (unhide HC).mono ?_
  rintro y w4 ⟨rfl, hb4⟩
  dsimp only
  have HB12 := hide ((unhide HB11).trans (hb4.mono (unhide HB11).size))
  have E12 := (unhide HE11).trans (hb4.mono (unhide HE11).size)
  have HO6 := hide ((unhide HO4).below E12 (Nat.le_refl _))
  have HO7 := hide ((unhide HO5).below E12 (Nat.le_refl _))
  clear HC HB11 HE11 hb4 E12 HO4 HO5 cv1
  have b13 := (unhide HB12).alloc (unhide HB12).size (.cells (opsV [⟨1, 2, []⟩, ⟨2, 0, [120]⟩, ⟨1, 1, []⟩]).toArray 38)
  have e13 := (Below.refl w4.heap.size w4).alloc (Nat.le_refl _) (.cells (opsV [⟨1, 2, []⟩, ⟨2, 0, [120]⟩, ⟨1, 1, []⟩]).toArray 38)
  have i9 := lit_isOD w4 [⟨1, 2, []⟩, ⟨2, 0, [120]⟩, ⟨1, 1, []⟩] (opsV [⟨1, 2, []⟩, ⟨2, 0, [120]⟩, ⟨1, 1, []⟩]).toArray (by simp)
  have HS := hide (RSameD_at a3 c3 [⟨1, 2, []⟩, ⟨2, 0, [120]⟩, ⟨1, 1, []⟩] _ 3 [⟨1, 2, []⟩, ⟨2, 0, [120]⟩, ⟨1, 1, []⟩] _ ((unhide HO6).below e13 (Nat.le_refl _)) i9 (by decide) (by decide) (by unfold TbD; decide) (by unfold TbD; decide))
  rw [decide_eq_true rfl] at HS
  have HB13 := hide b13
  have HO8 := hide ((unhide HO7).below e13 (Nat.le_refl _))
  clear b13 e13 i9 HB12 HO6 HO7
  go_wp2_with fail
  refine (unhide HS).mono ?_
  rintro y w5 ⟨rfl, hb5⟩
  dsimp only
  have HB14 := hide ((unhide HB13).trans (hb5.mono (unhide HB13).size))
  have HO9 := hide ((unhide HO8).below hb5 (Nat.le_refl _))
  clear HS HB13 HO8 hb5
  have b15 := (unhide HB14).alloc (unhide HB14).size (.cells (opsV [⟨1, 2, []⟩, ⟨3, 2, []⟩, ⟨1, 1, []⟩]).toArray 38)
  have e15 := (Below.refl w5.heap.size w5).alloc (Nat.le_refl _) (.cells (opsV [⟨1, 2, []⟩, ⟨3, 2, []⟩, ⟨1, 1, []⟩]).toArray 38)
  have i9 := lit_isOD w5 [⟨1, 2, []⟩, ⟨3, 2, []⟩, ⟨1, 1, []⟩] (opsV [⟨1, 2, []⟩, ⟨3, 2, []⟩, ⟨1, 1, []⟩]).toArray (by simp)
  have HS := hide (RSameD_at a5 c5 [⟨1, 2, []⟩, ⟨3, 2, []⟩, ⟨1, 1, []⟩] _ 3 [⟨1, 2, []⟩, ⟨3, 2, []⟩, ⟨1, 1, []⟩] _ ((unhide HO9).below e15 (Nat.le_refl _)) i9 (by decide) (by decide) (by unfold TbD; decide) (by unfold TbD; decide))
  rw [decide_eq_true rfl] at HS
  have HB15 := hide b15
  clear b15 e15 i9 HB14 HO9
  go_wp2_with fail
  refine (unhide HS).mono ?_
  rintro y w6 ⟨rfl, hb6⟩
  dsimp only
  have HB16 := hide ((unhide HB15).trans (hb6.mono (unhide HB15).size))
  clear HS HB15 hb6
  go_wp2_with fail
  exact bodyPost_ret (results_tmp rfl _ _ _) rfl ⟨rfl, unhide HB16⟩
end Go.Proofs.YtkdnanlgkedjgaaDoor
end
