/- Layer 7: contracts of lines' size, known, last, Line, Spot. · Layer 10: contracts of seek's known, by, ahead, floor, stepAt, Floor, Step. -/
import Derived.Test.YteamaneompijkaaGreatDoorSl31
import Derived.Test.YteamaneompijkaaGreatDoorSl27
import Derived.Test.YteamaneompijkaaGreatDoorSl05

section
namespace Go.Proofs.YteamaneompijkaaGreatDoor
open Go.ChangeShapes Go.WideShapes Go.ChangeAt Go.RowKit
attribute [local go_sem] Oper.semAt_some

theorem size_at (a0 : Option Addr) (cap : Nat) (l : List Int) (r : Int) (w : World) (hB : IsB w a0 cap l) (hT : Tab w) :
    Calls Tryz.prog 67 #[.slice a0 l.length cap, .int .i64 r] w fun y w' => y = .returned (.int .i64 (szE r l : Int)) ∧ Below w.heap.size w w' := by
  have k1 := Size_at a0 cap l r w hB hT
  go_enter Tryz.func67, Tryz.ntmps67
  go_wp2_with fail
  refine k1.mono ?_
  rintro y w1 ⟨rfl, b1⟩
  go_wp2_with fail
  go_ret
  exact ⟨rfl, b1⟩
def knR (r m : Int) : Int := if isRu r && isRu m then 0 else 3
theorem known_val (r m : Int) : toR r 0 r m (EE []) = knR r m := by
  unfold toR knR
  have hE : EE [] = [e0] := by unfold EE; rw [spots_end (by simp)]; rfl
  cases h1 : isRu r with
  | false => rfl
  | true =>
    cases h2 : isRu m with
    | false => rfl
    | true =>
      have h := at_edge (inc_EE (l := []) (by simp) r) (j := 0) (by rw [hE]; simp) m
      rw [hE] at h ⊢
      have hb : byE r e0 = 0 := by_e0 r
      have hg : [e0].getD 0 e0 = e0 := rfl
      rw [hg, hb] at h
      exact h.2.2.1
theorem isB_nil (w : World) : IsB w none 0 [] := ⟨Nat.le_refl _, by simp, Or.inl rfl, by simp⟩
theorem known_at (r m : Int) (w : World) (hT : Tab w) :
    Calls Tryz.prog 73 #[.int .i64 r, .int .i64 m] w fun y w' => y = .returned (.int .i64 (knR r m)) ∧ Below w.heap.size w w' := by
  have k1 := To_at none 0 [] r 0 r m w (isB_nil w) hT
  rw [known_val, List.length_nil] at k1
  go_enter Tryz.func73, Tryz.ntmps73
  go_wp2_with fail
  refine k1.mono ?_
  rintro y w1 ⟨rfl, b1⟩
  go_wp2_with fail
  go_ret
  exact ⟨rfl, b1⟩
theorem last_at (e : Ln) (w : World) (h1 : e.2.2.1 ≤ 9223372036854775807) (h2 : e.2.2.2 ≤ 9223372036854775807) :
    Calls Tryz.prog 75 #[lnV e] w fun y w' => y = .returned (.int .i64 (lst e : Int)) ∧ Below w.heap.size w w' := by
  have hw : wrap64 ((e.2.2.2 : Int) - 1) = (e.2.2.2 : Int) - 1 := wrap_in _ (by omega) (by omega)
  have HM : Hid ((lst e : Int) = max (e.2.2.1 : Int) ((e.2.2.2 : Int) - 1)) := hide (by unfold lst; omega)
  have b1 := (Below.refl w.heap.size w).alloc (Nat.le_refl _) (.cells #[.int .i64 (e.2.1 : Int), .int .i64 (e.2.2.1 : Int), .int .i64 (e.2.2.2 : Int)] 140)
  unfold lnV
  clear h1 h2
  go_enter Tryz.func75, Tryz.ntmps75
  go_wp2_with fail
  all_goals go_ret
  all_goals refine ⟨ret_int ?_, b1⟩
  all_goals (have := unhide HM; omega)
def liV (o : Option Ln) : Value := match o with | some e => .tuple #[.int .i64 (e.2.1 : Int), .int .i64 (e.2.2.1 : Int), .int .i64 (e.2.2.2 : Int), .int .i64 0] | none => .tuple #[.int .i64 0, .int .i64 0, .int .i64 0, .int .i64 2]
set_option maxRecDepth 100000 in
theorem Line_at (a0 : Option Addr) (cap : Nat) (l : List Int) (k : Int) (w : World) (hB : IsB w a0 cap l) :
    Calls Tryz.prog 39 #[.slice a0 l.length cap, .int .i64 k] w fun y w' => y = .returned (liV (nbr l k)) ∧ Below w.heap.size w w' := by
  have k1 := number_at a0 cap l k w hB
  cases hn : nbr l k with
  | none =>
    rw [hn] at k1
    unfold nbV lnV at k1
    go_enter Tryz.func39, Tryz.ntmps39
    go_wp2_with fail
    refine k1.mono ?_
    rintro y w1 ⟨rfl, b1⟩
    go_wp2_with fail
    refine bodyPost_ret (v := .tuple #[.int .i64 0, .int .i64 0, .int .i64 0, .int .i64 2]) (by simp [results, Tryz.results39, go_sem]) rfl ?_
    exact ⟨rfl, b1.alloc b1.size _⟩
  | some e =>
    rw [hn] at k1
    unfold nbV lnV at k1
    have hnE := hide hn
    clear hn
    go_enter Tryz.func39, Tryz.ntmps39
    go_wp2_with fail
    refine k1.mono ?_
    rintro y w1 ⟨rfl, b1⟩
    have kL := Cls.new w1 140 #[.int .i64 (e.2.1 : Int), .int .i64 (e.2.2.1 : Int), .int .i64 (e.2.2.2 : Int)]
    have b2 := b1.alloc (o := .cells #[.int .i64 (e.2.1 : Int), .int .i64 (e.2.2.1 : Int), .int .i64 (e.2.2.2 : Int)] 140) b1.size
    go_wp2_with fail
    have HS : Hid ((fun w' : World => w'.cell? ⟨w1.heap.size, 0, none⟩ = some (.int .i64 (e.2.1 : Int)) ∧ w'.cell? ⟨w1.heap.size, 1, none⟩ = some (.int .i64 (e.2.2.1 : Int)) ∧ w'.cell? ⟨w1.heap.size, 2, none⟩ = some (.int .i64 (e.2.2.2 : Int))) (w1.alloc (.cells #[.int .i64 (e.2.1 : Int), .int .i64 (e.2.2.1 : Int), .int .i64 (e.2.2.2 : Int)] 140)).drew) := hide ⟨(kL.cell 0).trans rfl, (kL.cell 1).trans rfl, (kL.cell 2).trans rfl⟩
    refine regionL (S := fun w' => w'.cell? ⟨w1.heap.size, 0, none⟩ = some (.int .i64 (e.2.1 : Int)) ∧ w'.cell? ⟨w1.heap.size, 1, none⟩ = some (.int .i64 (e.2.2.1 : Int)) ∧ w'.cell? ⟨w1.heap.size, 2, none⟩ = some (.int .i64 (e.2.2.2 : Int))) (fun _ => false) (by kernel_rfl) ?_
    have b3 : Below w.heap.size w (w1.alloc (.cells #[.int .i64 (e.2.1 : Int), .int .i64 (e.2.2.1 : Int), .int .i64 (e.2.2.2 : Int)] 140)).drew := b2.trans (ch_drew (N := w.heap.size) (n := 0) _).1
    generalize (w1.alloc (.cells #[.int .i64 (e.2.1 : Int), .int .i64 (e.2.2.1 : Int), .int .i64 (e.2.2.2 : Int)] 140)).drew = w3 at *
    refine anyL_take (i := 0) (v := ?v0) rfl (by kernel_rfl) (by kernel_rfl) (by kernel_rfl) (by kernel_rfl) (fun _ _ _ h => h) (Or.inl ⟨by rfl, ?h0⟩) (unhide HS) ?_
    case h0 => (intro w hSw; (try dsimp only at hSw); go_simp) <;> with_reducible rfl
    simp only [Act.put, List.getElem_toArray, List.getElem_cons_zero, List.setIfInBounds_toArray, List.set_cons_zero, List.set_cons_succ]
    refine anyL_take (i := 1) (v := ?v1) rfl (by kernel_rfl) (by kernel_rfl) (by kernel_rfl) (by kernel_rfl) (fun _ _ _ h => h) (Or.inl ⟨by rfl, ?h1⟩) (unhide HS) ?_
    case h1 => (intro w hSw; (try dsimp only at hSw); go_simp) <;> with_reducible rfl
    simp only [Act.put, List.getElem_toArray, List.getElem_cons_zero, List.getElem_cons_succ, List.setIfInBounds_toArray, List.set_cons_zero, List.set_cons_succ]
    refine anyL_take (i := 2) (v := ?v2) rfl (by kernel_rfl) (by kernel_rfl) (by kernel_rfl) (by kernel_rfl) (fun _ _ _ h => h) (Or.inl ⟨by rfl, ?h2⟩) (unhide HS) ?_
    case h2 => (intro w hSw; (try dsimp only at hSw); go_simp) <;> with_reducible rfl
    simp only [Act.put, List.getElem_toArray, List.getElem_cons_zero, List.getElem_cons_succ, List.setIfInBounds_toArray, List.set_cons_zero, List.set_cons_succ]
    refine anyL_take (i := 3) (v := ?v3) rfl (by kernel_rfl) (by kernel_rfl) (by kernel_rfl) (by kernel_rfl) (fun _ _ _ h => h) (Or.inl ⟨by rfl, ?h3⟩) (unhide HS) ?_
    case h3 => (intro w hSw; (try dsimp only at hSw); go_simp) <;> with_reducible rfl
    simp only [Act.put, List.getElem_toArray, List.getElem_cons_zero, List.getElem_cons_succ, List.setIfInBounds_toArray, List.set_cons_zero, List.set_cons_succ]
    refine anyL_take (i := 4) (v := ?v4) rfl (by kernel_rfl) (by kernel_rfl) (by kernel_rfl) (by kernel_rfl) (fun _ _ _ h => h) (Or.inl ⟨by rfl, ?h4⟩) (unhide HS) ?_
    case h4 => (intro w hSw; (try dsimp only at hSw); go_simp) <;> with_reducible rfl
    simp only [Act.put, List.getElem_toArray, List.getElem_cons_zero, List.getElem_cons_succ, List.setIfInBounds_toArray, List.set_cons_zero, List.set_cons_succ]
    refine anyL_take (i := 5) (v := ?v5) rfl (by kernel_rfl) (by kernel_rfl) (by kernel_rfl) (by kernel_rfl) (fun _ _ _ h => h) (Or.inl ⟨by rfl, ?h5⟩) (unhide HS) ?_
    case h5 => (intro w hSw; (try dsimp only at hSw); go_simp) <;> with_reducible rfl
    simp only [Act.put, List.getElem_toArray, List.getElem_cons_zero, List.getElem_cons_succ, List.setIfInBounds_toArray, List.set_cons_zero, List.set_cons_succ]
    refine anyL_take (i := 6) (v := ?v6) rfl (by kernel_rfl) (by kernel_rfl) (by kernel_rfl) (by kernel_rfl) (fun _ _ _ h => h) (Or.inl ⟨by rfl, ?h6⟩) (unhide HS) ?_
    case h6 => (intro w hSw; (try dsimp only at hSw); go_simp) <;> with_reducible rfl
    simp only [Act.put, List.getElem_toArray, List.getElem_cons_zero, List.getElem_cons_succ, List.setIfInBounds_toArray, List.set_cons_zero, List.set_cons_succ]
    refine anyL_take (i := 7) (v := ?v7) rfl (by kernel_rfl) (by kernel_rfl) (by kernel_rfl) (by kernel_rfl) (fun _ _ _ h => h) (Or.inl ⟨by rfl, ?h7⟩) (unhide HS) ?_
    case h7 => (intro w hSw; (try dsimp only at hSw); go_simp) <;> with_reducible rfl
    simp only [Act.put, List.getElem_toArray, List.getElem_cons_zero, List.getElem_cons_succ, List.setIfInBounds_toArray, List.set_cons_zero, List.set_cons_succ]
    refine anyL_take (i := 8) (v := ?v8) rfl (by kernel_rfl) (by kernel_rfl) (by kernel_rfl) (by kernel_rfl) (fun _ _ _ h => h) (Or.inl ⟨by rfl, ?h8⟩) (unhide HS) ?_
    case h8 => (intro w hSw; (try dsimp only at hSw); go_simp) <;> with_reducible rfl
    simp only [Act.put, List.getElem_toArray, List.getElem_cons_zero, List.getElem_cons_succ, List.setIfInBounds_toArray, List.set_cons_zero, List.set_cons_succ]
    refine anyL_take (i := 9) (v := ?v9) rfl (by kernel_rfl) (by kernel_rfl) (by kernel_rfl) (by kernel_rfl) (fun _ _ _ h => h) (Or.inl ⟨by rfl, ?h9⟩) (unhide HS) ?_
    case h9 => (intro w hSw; (try dsimp only at hSw); go_simp) <;> with_reducible rfl
    simp only [Act.put, List.getElem_toArray, List.getElem_cons_zero, List.getElem_cons_succ, List.setIfInBounds_toArray, List.set_cons_zero, List.set_cons_succ]
    refine anyL_done (by kernel_rfl) ?_ _
    go_wp2_with fail
    refine bodyPost_ret (v := .tuple #[.int .i64 (e.2.1 : Int), .int .i64 (e.2.2.1 : Int), .int .i64 (e.2.2.2 : Int), .int .i64 0]) (by simp [results, Tryz.results39]) rfl ?_
    exact ⟨rfl, b3⟩

end Go.Proofs.YteamaneompijkaaGreatDoor
end

section
namespace Go.Proofs.YteamaneompijkaaGreatDoor
open Go.ChangeShapes Go.WideShapes Go.ChangeAt Go.RowKit
attribute [local go_sem] Oper.semAt_some

theorem own_isNS {W : World} {B : Nat} {v : Value} {l : List Int} (h : Own W B v l) (hl : ∀ x ∈ l, 0 ≤ x ∧ x ≤ 255) (hn : l.length ≤ 140737488351232) : ∃ a c, v = .slice a l.length c ∧ IsN W a c l := by
  have hc := h
  rcases h.2 with ⟨rfl, h0⟩ | ⟨g, cap, cur, rfl, _, hg, hle, _⟩
  · exact ⟨none, 0, by rw [h0], ⟨by omega, hn, Or.inl (List.length_eq_zero_iff.1 h0), hl⟩, fun _ => rfl⟩
  · exact ⟨_, cap, rfl, ⟨hle, hn, Or.inr ⟨g, 0, rfl, hc.lies hl⟩, hl⟩, fun e => by cases e⟩
theorem isB_nilS (w : World) : IsB w none 0 [] := ⟨Nat.le_refl _, by simp, Or.inl rfl, by simp⟩
theorem own_lit0S (w : World) : Own (w.alloc (.cells #[] 5)) w.heap.size (.slice (some ⟨w.heap.size, 0, none⟩) 0 0) [] :=
  ⟨rfl, Or.inr ⟨w.heap.size, 0, #[], rfl, Nat.le_refl _, World.alloc_heap_new w _, Nat.le_refl _, Nat.zero_le _, rfl, rfl⟩⟩
def kn3 (f t m : Int) : Int := if isRu f && (isRu t && isRu m) then 0 else 3
theorem known10_val (f t m : Int) : toR f 0 t m (EE []) = kn3 f t m := by
  unfold toR kn3
  have hE : EE [] = [e0] := by unfold EE; rw [spots_end (by simp)]; rfl
  by_cases h : (isRu f && (isRu t && isRu m)) = true
  · rw [if_pos h, if_pos h]
    have h := at_edge (inc_EE (l := []) (by simp) f) (j := 0) (by rw [hE]; simp) m
    rw [hE] at h ⊢
    have hb : byE f e0 = 0 := by_e0 f
    have hg : [e0].getD 0 e0 = e0 := rfl
    rw [hg, hb] at h
    exact h.2.2.1
  · rw [if_neg h, if_neg h]
set_option maxRecDepth 100000 in
theorem known10_at (f t m : Int) (w : World) (hT : Tab w) :
    Calls Tryz.prog 49 #[.int .i64 f, .int .i64 t, .int .i64 m] w fun y w' => y = .returned (.int .i64 (kn3 f t m)) ∧ Below w.heap.size w w' := by
  have k1 := To_at none 0 [] f 0 t m w (isB_nilS w) hT
  rw [known10_val, List.length_nil] at k1
  go_enter Tryz.func49, Tryz.ntmps49
  go_wp2_with fail
  refine k1.mono ?_
  rintro y w1 ⟨rfl, b1⟩
  go_wp2_with fail
  go_ret
  exact ⟨rfl, b1⟩
def byZ (u : Int) (z : Sz) : Int := if u = 1 then z.b else if u = 2 then z.r else z.u
set_option maxRecDepth 100000 in
theorem by10_at (z : Sz) (u : Int) (w : World) :
    Calls Tryz.prog 51 #[szV z, .int .i64 u] w fun y w' => y = .returned (.int .i64 (byZ u z)) ∧ Below w.heap.size w w' := by
  unfold szV
  by_cases h1 : u = 1
  · subst h1
    go_enter Tryz.func51, Tryz.ntmps51
    go_wp2
    go_ret
    exact ⟨rfl, (Below.refl _ w).alloc (Nat.le_refl _) _⟩
  · by_cases h2 : u = 2
    · subst h2
      go_enter Tryz.func51, Tryz.ntmps51
      go_wp2
      go_ret
      exact ⟨rfl, (Below.refl _ w).alloc (Nat.le_refl _) _⟩
    · have e1 : (u == 1) = false := by simpa using h1
      have e2 : (u == 2) = false := by simpa using h2
      have HB : Hid (byZ u z = z.u) := hide (by rw [byZ, if_neg h1, if_neg h2])
      clear h1 h2
      go_enter Tryz.func51, Tryz.ntmps51
      go_wp2
      go_ret
      exact ⟨ret_int (by rw [unhide HB]), (Below.refl _ w).alloc (Nat.le_refl _) _⟩
set_option maxRecDepth 100000 in
set_option maxHeartbeats 2000000 in
theorem ahead10_at (g : Nat) (o : Option Nd) (n : Nat) (w : World) (h : IsRo w g o) (hn : n ≤ (txtO o).length) (hm : (txtO o).length ≤ 268435456) (hW : Wt w) :
    Calls Tryz.prog 52 #[.func (.func 53) #[.pointer (some ⟨g, 0, none⟩)] #[], .int .i64 (n : Int)] w fun y w' => y = .returned (szV (szL ((txtO o).take n))) ∧ Below w.heap.size w w' := by
  have b0 := (Below.refl w.heap.size w).alloc (Nat.le_refl _) (.cells #[.int .i64 0, .int .i64 0, .int .i64 0, .int .i64 0] 45)
  have g0 := push_get w (.cells #[.int .i64 0, .int .i64 0, .int .i64 0, .int .i64 0] 45)
  have k := BeforeR9_at g o n _ (h.on b0) hn hm (hW.below b0)
  rw [weq9] at k
  have HK := hide k
  have HQ : Hid (szV (szL (List.take n (txtO o))) = .agg #[.int .i64 (szL (List.take n (txtO o))).b, .int .i64 (szL (List.take n (txtO o))).r, .int .i64 (szL (List.take n (txtO o))).u, .int .i64 (szL (List.take n (txtO o))).e]) := hide rfl
  clear k h hn hm hW
  go_enter Tryz.func52, Tryz.ntmps52
  go_upto_region 1 with fail
  generalize w.alloc (.cells #[.int .i64 0, .int .i64 0, .int .i64 0, .int .i64 0] 45) = w0 at *
  have HG := hide g0
  have HB := hide b0
  clear g0 b0
  generalize (szL (List.take n (txtO o))).b = zb at *
  generalize (szL (List.take n (txtO o))).r = zr at *
  generalize (szL (List.take n (txtO o))).u = zu at *
  generalize (szL (List.take n (txtO o))).e = ze at *
  generalize strOfNums (List.take 3 (List.take n (txtO o))) = zh at *
  generalize strOfNums (tail3 (List.take n (txtO o))) = zt at *
  go_wp2_with fail
  refine (unhide HK).mono ?_
  rintro y w1 ⟨rfl, x1⟩
  dsimp only
  have hg := bk9_on (unhide HG) x1
  have hd := (unhide HB).trans (x1.mono (unhide HB).size)
  have HG1 := hide hg
  have HD1 := hide hd
  clear hg hd x1 HK HG HB
  go_upto_region 2 with fail
  have x5 := (Below.refl w1.heap.size w1).alloc (Nat.le_refl _) (.cells #[.int .i64 zb, .int .i64 zr, .int .i64 zu, .int .i64 ze, .string zh, .string zt] 47)
  have g5 := push_get w1 (.cells #[.int .i64 zb, .int .i64 zr, .int .i64 zu, .int .i64 ze, .string zh, .string zt] 47)
  generalize w1.alloc (.cells #[.int .i64 zb, .int .i64 zr, .int .i64 zu, .int .i64 ze, .string zh, .string zt] 47) = w5 at *
  have hg := bk9_on (unhide HG1) x5
  have hd := (unhide HD1).trans (x5.mono (unhide HD1).size)
  generalize w1.heap.size = gW at *
  clear x5 HG1 HD1
  obtain ⟨c0, c1, c2, c3, _, _, _⟩ := cells6 g5
  obtain ⟨d0, d1, d2, d3, f⟩ := cells4 hg
  have f0 := f 0
  have f1 := f 1
  have f2 := f 2
  have f3 := f 3
  have HF := hide (box4_all hg (.int .i64 zb) (.int .i64 zr) (.int .i64 zu) (.int .i64 ze))
  have HD := hide (below4 hd (Nat.le_refl _) (.int .i64 zb) (.int .i64 zr) (.int .i64 zu) (.int .i64 ze))
  clear f hg hd g5
  go_wp2_with fail
  obtain ⟨c0, c1, c2, c3, _⟩ := cells4 (unhide HF)
  refine bodyPost_ret (v := .agg #[.int .i64 zb, .int .i64 zr, .int .i64 zu, .int .i64 ze]) (by simp [results, Tryz.results52, go_sem, c0, c1, c2, c3]) rfl ⟨by rw [unhide HQ], unhide HD⟩
set_option maxRecDepth 100000 in
set_option maxHeartbeats 2000000 in
theorem floor10_of (g : Nat) (o : Option Nd) (p lo hi N q : Nat) (L : List Int) (w : World) (hk : Calls Tryz.prog 17 #[.pointer (some ⟨g, 0, none⟩), .int .i64 (lo : Int), .int .i64 (hi : Int)] w fun y w' => ∃ v, y = .returned (.tuple #[v, .int .i64 0]) ∧ Own w' w.heap.size v L ∧ Below w.heap.size w w')
    (hb : ∀ x ∈ L, 0 ≤ x ∧ x ≤ 255) (hL : L.length ≤ 268435456) (w2 : wrap64 ((p : Int) - 4) = (p : Int) - 4) (w2' : wrap64 ((p : Int) - 4 + 1) = (p : Int) - 3) (w3 : max 0 ((p : Int) - 3) = (lo : Int))
    (w4 : wrap64 ((p : Int) + 4) = (p : Int) + 4) (w5 : wrap64 ((p : Int) + 4 - 1) = (p : Int) + 3) (w6 : min (N : Int) ((p : Int) + 3) = (hi : Int)) (w7 : (p : Int) - (lo : Int) = (q : Int)) (hq : q ≤ L.length) (w8 : wrap64 ((lo : Int) + (flr L q : Int)) = (flr (txtO o) p : Int)) (hW : Wt w) :
    Calls Tryz.prog 64 #[.func (.func 17) #[.pointer (some ⟨g, 0, none⟩)] #[], .int .i64 (N : Int), .int .i64 (p : Int)] w fun y w' => y = .returned (.int .i64 (flr (txtO o) p : Int)) ∧ Below w.heap.size w w' := by
  have e1 : floorV L ((p : Int) - (lo : Int)) = .tuple #[.int .i64 (flr L q : Int), .int .i64 0] := by
    rw [w7]
    unfold floorV
    rw [if_neg (by omega), Int.toNat_natCast]
  have HK := hide hk
  have HB := hide hb
  have HT := hide fun (X : World) (hx : Below w.heap.size w X) => (hW.below hx).1
  have HL := hide hL
  have HE := hide e1
  generalize flr (txtO o) p = fr at *
  clear hk hb hW hL hq e1 w7
  go_enter Tryz.func64, Tryz.ntmps64
  go_wp2_with fail
  refine (unhide HK).mono ?_
  rintro y wa ⟨v, rfl, hv, x1⟩
  dsimp only
  obtain ⟨a', c', rfl, hN'⟩ := own_isNS hv (unhide HB) (by have := unhide HL; omega)
  have HI := hide hN'
  clear hv hN'
  go_wp2_with fail
  refine (Floor_at a' c' _ _ wa (unhide HI).1 (unhide HT wa x1)).mono ?_
  rintro y wb ⟨rfl, x2⟩
  dsimp only
  rw [unhide HE]
  have X2 := x1.trans (x2.mono x1.size)
  go_wp2_with fail
  go_ret
  exact ⟨ret_int w8, X2⟩
theorem floor10_at (g : Nat) (o : Option Nd) (p : Nat) (w : World) (h : IsRo w g o) (hb : ∀ x ∈ txtO o, 0 ≤ x ∧ x ≤ 255) (hp : p ≤ (txtO o).length) (hm : (txtO o).length ≤ 268435456) (hW : Wt w) :
    Calls Tryz.prog 64 #[.func (.func 17) #[.pointer (some ⟨g, 0, none⟩)] #[], .int .i64 ((txtO o).length : Int), .int .i64 (p : Int)] w fun y w' => y = .returned (.int .i64 (flr (txtO o) p : Int)) ∧ Below w.heap.size w w' := by
  have hfw := flr_win (txtO o) p hp
  have hle := flr_le (txtO o) p
  have hlw : (((txtO o).drop (p - 3)).take (min (txtO o).length (p + 3) - (p - 3))).length = min (txtO o).length (p + 3) - (p - 3) := by rw [List.length_take, List.length_drop]; omega
  exact floor10_of g o p (p - 3) (min (txtO o).length (p + 3)) (txtO o).length (p - (p - 3)) _ w (BytesR9_at g o (p - 3) (min (txtO o).length (p + 3)) w h (by omega) (by omega) hm) (fun x hx => hb x (List.mem_of_mem_drop (List.mem_of_mem_take hx))) (by omega)
    (wrap_in _ (by omega) (by omega)) (by rw [wrap_in _ (by omega) (by omega)]; omega) (by omega) (wrap_in _ (by omega) (by omega)) (by rw [wrap_in _ (by omega) (by omega)]; omega) (by omega) (by omega) (by omega)
    (by rw [wrap_in _ (by omega) (by omega)]; omega) hW
set_option maxRecDepth 100000 in
set_option maxHeartbeats 2000000 in
theorem Floor10_at (g : Nat) (o : Option Nd) (p : Int) (w : World) (h : IsRo w g o) (hb : ∀ x ∈ txtO o, 0 ≤ x ∧ x ≤ 255) (hm : (txtO o).length ≤ 268435456) (hW : Wt w) :
    Calls Tryz.prog 30 #[.pointer (some ⟨g, 0, none⟩), .int .i64 p] w fun y w' => y = .returned (floorV (txtO o) p) ∧ Below w.heap.size w w' := by
  have HL := hide fun (X : World) (hx : Below w.heap.size w X) => Len9_at g o X (h.on hx)
  have HF := hide fun (X : World) (hx : Below w.heap.size w X) (q : Nat) (hq : q ≤ (txtO o).length) => floor10_at g o q X (h.on hx) hb hq hm (hW.below hx)
  clear h hb hm hW
  by_cases h0 : p < 0
  · have d0 : decide (p < 0) = true := decide_eq_true h0
    have hv : floorV (txtO o) p = .tuple #[.int .i64 0, .int .i64 2] := by unfold floorV; rw [if_pos (.inl h0)]
    rw [hv]
    clear h0 hv
    go_enter Tryz.func30, Tryz.ntmps30
    go_wp2_with fail
    refine bodyPost_ret (results_tmp2 rfl _ _ _) rfl ?_
    exact ⟨rfl, Below.refl _ _⟩
  · have d0 : decide (p < 0) = false := decide_eq_false h0
    by_cases h1 : ((txtO o).length : Int) < p
    · have d1 : decide (p > ((txtO o).length : Int)) = true := decide_eq_true h1
      have d2 : decide (((txtO o).length : Int) < p) = true := decide_eq_true h1
      have hv : floorV (txtO o) p = .tuple #[.int .i64 0, .int .i64 2] := by unfold floorV; rw [if_pos (.inr h1)]
      rw [hv]
      clear h0 h1 hv
      go_enter Tryz.func30, Tryz.ntmps30
      go_wp2_with fail
      refine (unhide HL w (Below.refl _ _)).mono ?_
      rintro y w1 ⟨rfl, x1⟩
      dsimp only
      go_wp2_with fail
      refine bodyPost_ret (results_tmp2 rfl _ _ _) rfl ?_
      exact ⟨rfl, x1⟩
    · obtain ⟨q, rfl⟩ : ∃ q : Nat, p = (q : Int) := ⟨p.toNat, by omega⟩
      have d1 : decide ((q : Int) > ((txtO o).length : Int)) = false := decide_eq_false h1
      have d2 : decide (((txtO o).length : Int) < (q : Int)) = false := decide_eq_false h1
      have d3 : decide (((txtO o).length) < q) = false := decide_eq_false (by omega)
      have hv : floorV (txtO o) (q : Int) = .tuple #[.int .i64 (flr (txtO o) q : Int), .int .i64 0] := by unfold floorV; rw [if_neg (by omega), Int.toNat_natCast]
      have HQ := hide (show q ≤ (txtO o).length by omega)
      rw [hv]
      clear h0 h1 hv
      go_enter Tryz.func30, Tryz.ntmps30
      go_wp2_with fail
      refine (unhide HL w (Below.refl _ _)).mono ?_
      rintro y w1 ⟨rfl, x1⟩
      dsimp only
      go_wp2_with fail
      refine (unhide HL w1 x1).mono ?_
      rintro y w2 ⟨rfl, x2⟩
      dsimp only
      have X2 := x1.trans (x2.mono x1.size)
      go_wp2_with fail
      refine (unhide HF w2 X2 q (unhide HQ)).mono ?_
      rintro y w3 ⟨rfl, x3⟩
      dsimp only
      have X3 := X2.trans (x3.mono X2.size)
      go_wp2_with fail
      refine bodyPost_ret (results_tmp2 rfl _ _ _) rfl ?_
      exact ⟨rfl, X3⟩

end Go.Proofs.YteamaneompijkaaGreatDoor
end
