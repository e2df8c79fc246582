/- Layer 6: contracts of rule's by, isRuler, isMode, Size, beside, find, To, Edge. -/
import Derived.Test.YteamaneompijkaaGreatDoorSl07

namespace Go.Proofs.YteamaneompijkaaGreatDoor
open Go.ChangeShapes Go.WideShapes Go.ChangeAt Go.RowKit
attribute [local go_sem] Oper.semAt_some

theorem by_at (e : Ed) (r : Int) (w : World) :
    Calls Tryz.prog 43 #[edV e, .int .i64 r] w fun y w' => y = .returned (.int .i64 (byE r e : Int)) ∧ Below w.heap.size w w' := by
  unfold edV
  by_cases h1 : r = 1
  · subst h1
    go_enter Tryz.func43, Tryz.ntmps43
    go_wp2
    go_ret
    exact ⟨rfl, (Below.refl _ w).alloc (Nat.le_refl _) _⟩
  · by_cases h2 : r = 2
    · subst h2
      go_enter Tryz.func43, Tryz.ntmps43
      go_wp2
      go_ret
      exact ⟨rfl, (Below.refl _ w).alloc (Nat.le_refl _) _⟩
    · have e1 : (r == 1) = false := by simpa using h1
      have e2 : (r == 2) = false := by simpa using h2
      have HB : Hid (byE r e = e.2.2) := hide (by rw [byE, if_neg h1, if_neg h2])
      clear h1 h2
      go_enter Tryz.func43, Tryz.ntmps43
      go_wp2
      go_ret
      exact ⟨ret_int (by rw [unhide HB]), (Below.refl _ w).alloc (Nat.le_refl _) _⟩
def isRu (r : Int) : Bool := decide (1 ≤ r ∧ r ≤ 3)
theorem isRuler_at (r : Int) (w : World) : Calls Tryz.prog 41 #[.int .i64 r] w fun y w' => y = .returned (.bool (isRu r)) ∧ w' = w := by
  go_enter Tryz.func41, Tryz.ntmps41
  go_wp2
  all_goals go_ret
  all_goals refine ⟨ret_bool ?_, rfl⟩
  all_goals (unfold isRu; rw [Bool.eq_iff_iff]; simp; omega)
theorem isMode_at (r : Int) (w : World) : Calls Tryz.prog 71 #[.int .i64 r] w fun y w' => y = .returned (.bool (isRu r)) ∧ w' = w := by
  go_enter Tryz.func71, Tryz.ntmps71
  go_wp2
  all_goals go_ret
  all_goals refine ⟨ret_bool ?_, rfl⟩
  all_goals (unfold isRu; rw [Bool.eq_iff_iff]; simp; omega)

theorem edges_seq (w w2 : World) (a0 : Option Addr) (cap : Nat) (l : List Int) (hB : IsB w a0 cap l) (hT : Tab w) (hb : Below w.heap.size w w2) :
    SeqB Tryz.prog 76 #[.pointer (some ⟨w2.heap.size, 0, none⟩)] (fun e => #[edV e]) (fun k => k < w.heap.size ∨ k = w2.heap.size) (EE l) (w2.alloc (.cells #[.slice a0 l.length cap] 30)) := by
  have hb2 := hb.alloc (o := .cells #[.slice a0 l.length cap] 30) hb.size
  refine edges1_B w2.heap.size _ a0 cap l _ ((World.cell?_alloc_mark w2 _ _ (0, 0) 0).trans rfl) (hB.below hb2 (Nat.le_refl _)) (hT.below hb2 hT.size) (Or.inl hT.size) (Or.inr rfl) ?_
  rintro g off hl rfl
  rcases hB.2.2.1 with h | ⟨g', off', e, hL⟩
  · exact absurd h hl
  · cases e
    exact Or.inl (cell_lt (hL 0 (List.length_pos_iff.2 hl)).1)

def lastBy (r : Int) (pre : List Ed) : Nat := match pre.getLast? with | some e => byE r e | none => 0
theorem lastBy_snoc (r : Int) (pre : List Ed) (e : Ed) : lastBy r (pre ++ [e]) = byE r e := by simp [lastBy]
/-- what Size's loop keeps -/
structure RzI (w : World) (n : Nat) (r : Int) (pre : List Ed) (X : World) : Prop where
  hr : Cls X n 25 #[.int .i64 r]
  s : Cls X (n + 1) 3 #[.int .i64 (lastBy r pre : Int)]
  b : Below n w X
theorem RzI.abd {w : World} {n N : Nat} {r : Int} (hN : n + 2 ≤ N) : Abd N (RzI w n r) := fun _ _ _ h hb => ⟨h.hr.below hb (by omega), h.s.below hb (by omega), h.b.trans (hb.mono (by omega))⟩

set_option maxRecDepth 100000 in
set_option maxHeartbeats 4000000 in
theorem Size_in (a0 : Option Addr) (cap : Nat) (l : List Int) (r : Int) (w : World) (hB : IsB w a0 cap l) (hT : Tab w) (hr : isRu r = true) :
    Calls Tryz.prog 15 #[.slice a0 l.length cap, .int .i64 r] w fun y w' => y = .returned (.tuple #[.int .i64 (byE r (stE l (spots l 0)) : Int), .int .i64 0]) ∧ Below w.heap.size w w' := by
  refine (callsIn_wide (n := 4)).1 ?_
  refine callsIn_of_wp_marks Tryz.func15 rfl trivial ?_ rfl
  simp only [Tryz.ntmps15, List.size_toArray, List.length_cons, List.length_nil, Nat.reduceAdd, Nat.reduceSub, Array.replicate_succ, Array.replicate_zero, List.push_toArray, List.append_toArray, List.nil_append, List.cons_append]
  refine wpIn_wide.2 ?_
  have k1 := Cls.new w 25 #[.int .i64 r]
  have b1 := (Below.refl w.heap.size w).alloc (Nat.le_refl _) (.cells #[.int .i64 r] 25)
  have z1 : (w.alloc (.cells #[.int .i64 r] 25)).heap.size = w.heap.size + 1 := by simp
  have c1 := k1.cell 0
  simp only [List.getElem?_toArray, List.getElem?_cons_zero] at c1
  go_wp2_with fail
  refine (isRuler_at r _).mono ?_
  rintro y w1 ⟨rfl, rfl⟩
  rw [hr]
  have k2 := k1.alloc (.cells #[.int .i64 0] 3)
  have k3 := Cls.new (w.alloc (.cells #[.int .i64 r] 25)) 3 #[.int .i64 0]
  have b2 := b1.alloc (o := .cells #[.int .i64 0] 3) (by simp)
  rw [z1] at k3
  have z2 : ((w.alloc (.cells #[.int .i64 r] 25)).alloc (.cells #[.int .i64 0] 3)).heap.size = w.heap.size + 2 := by simp
  clear k1 b1 c1
  go_wp2_with fail
  generalize (w.alloc (.cells #[.int .i64 r] 25)).alloc (.cells #[.int .i64 0] 3) = w2 at *
  refine (edges_at a0 l.length cap w2).mono ?_
  rintro y w3' ⟨rfl, rfl⟩
  have hseq := edges_seq w w2 a0 cap l hB hT b2
  have i0 : RzI w w.heap.size r [] (w2.alloc (.cells #[.slice a0 l.length cap] 30)) := ⟨k2.alloc _, k3.alloc _, b2.alloc b2.size _⟩
  have z3 : (w2.alloc (.cells #[.slice a0 l.length cap] 30)).heap.size = w.heap.size + 3 := by simp [z2]
  clear k2 k3 b2
  go_wp2_with fail
  generalize w2.alloc (.cells #[.slice a0 l.length cap] 30) = w3 at *
  generalize w2.heap.size = gB at *
  subst z2
  have hn0 := hT.size
  clear hB hT z1
  generalize hn : w.heap.size = n at *
  refine (wpIn_wide (n := 4)).1 ?_
  refine range_below (gf := 76) (lb := #[.pointer (some ⟨n + 2, 0, none⟩)]) rfl (enters_of Tryz.func76 (by kernel_rfl) rfl) hseq (Below.refl _ _) (fun k hk => by rcases hk with h | rfl <;> omega) (fun _ => rfl)
    (RzI w n r) (fun _ _ _ => False) (RzI.abd (by omega)) (fun _ _ _ _ h _ => h) i0 (by decide)
    (fun x a X => ∃ Bx, Cls X Bx 102 #[.int .i64 (x.1 : Int), .int .i64 (x.2.1 : Int), .int .i64 (x.2.2 : Int)] ∧ n + 3 ≤ Bx ∧ a = { tmps := #[.slice a0 l.length cap, .int .i64 r, undef, .pointer (some ⟨n, 0, none⟩), .int .i64 0, .int .i64 0, .pointer (some ⟨n + 1, 0, none⟩), .pointer (some ⟨Bx, 0, none⟩), .int .i64 r, .bool true, .bool false, .slice a0 l.length cap, .func (.func 76) #[] #[.pointer (some ⟨n + 2, 0, none⟩)], .agg #[.int .i64 (x.1 : Int), .int .i64 (x.2.1 : Int), .int .i64 (x.2.2 : Int)], undef, undef, undef, undef], defers := [] }) ?hax ?assign ?body ?done ?stop
  case hax =>
    rintro x a' X k o o' hX ⟨Bx, hc, hlt, rfl⟩
    refine ⟨Bx, hc.same (World.putObj_heap_other ?_), hlt, rfl⟩
    rintro rfl
    rw [show X.heap[Bx]? = _ from hc] at hX
    cases hX
  case assign =>
    rintro k pre x X K hpre hi hsz hK
    unfold edV
    gi_wp2
    exact hK _ _ ((Below.refl _ X).alloc (Nat.le_refl _) _) ⟨X.heap.size, Cls.new X _ _, by omega, rfl⟩
  case body =>
    rintro k pre x a' X hk ⟨rec, hrec⟩ hpre hi ⟨Bx, hx, hlt, rfl⟩ hsz
    have cr := hi.hr.cell 0
    have x0 := hx.cell 0
    have x1 := hx.cell 1
    have x2 := hx.cell 2
    simp only [List.getElem?_toArray, List.getElem?_cons_zero, List.getElem?_cons_succ] at cr x0 x1 x2
    gi_wp2_with fail
    refine ⟨by first | trivial | (intro e; cases e), ?_⟩
    refine (CallsIn.inRound _ (callsIn_wide.2 (by_at x r X))).mono ?_
    rintro y Y ⟨rfl, hY⟩
    have s1 := hi.s.below hY hi.s.lt
    have c1 := s1.cell 0
    have f1 := s1.frozen 0
    simp only [List.getElem?_toArray, List.getElem?_cons_zero] at c1
    gi_wp2
    have s2 := s1.set 0 (.int .i64 (byE r x : Int))
    simp only [List.setIfInBounds_toArray, List.set_cons_zero] at s2
    refine ⟨(KB.all hY).trans (KB.setCell Y ⟨n + 1, 0, none⟩ _ ?_ ?_), ⟨(hi.hr.below hY hi.hr.lt).other _ _ ?_, ?_, (hi.b.trans (hY.mono (by omega))).trans (setCell_below Y _ _ ?_)⟩⟩
    · show ¬ (n + 1 < n ∨ n + 1 = n + 2); omega
    · show n + 1 < w3.heap.size; omega
    · show n ≠ n + 1; omega
    · rw [lastBy_snoc]; exact s2
    · show n ≤ n + 1; omega
  case done =>
    rintro D X hD hi hK
    have c1 := hi.s.cell 0
    simp only [List.getElem?_toArray, List.getElem?_cons_zero] at c1
    have hlb : lastBy r (EE l) = byE r (stE l (spots l 0)) := by unfold lastBy EE; rw [edL_last]
    rw [hlb] at c1
    go_wp2
    refine ⟨by simp, .inl ⟨_, _, rfl, run_takeDeferred hK, ?_⟩⟩
    exact ⟨_, results_tmp2 rfl _ _ _, rfl, hn ▸ (hi.b.trans (below_putl X D _ (by omega)))⟩
  case stop =>
    rintro D c pre X hD hpre h hK
    exact h.elim

end Go.Proofs.YteamaneompijkaaGreatDoor
