/- Layer 9: linked where one is nil; withoutFirst (written by wip/tools/rpe.py). · Layer 9: join. · Layer 9: split. · Layer 9: a rope's span and Split. · Layer 9: the measure of a node through its interface, whatever it is; a rope's Weld. · Layer 9: a rope's Before. · Layer 9: Join of two ropes (written by wip/tools/rpk.py). · Layer 9: nil ropes: Join, Before, Weld. · Layer 9: a loop over an iterator that gives slices of new memory, and keeps nothing of its own but what lies below it. · Layer 9: forwards and backwards: the pieces of a tree, given one by one. · Layer 9: backwards: the pieces of a tree ahead of a place, the last one first. -/
import Derived.Test.YteamaneompijkaaGreatDoorSa33
import Derived.Test.YteamaneompijkaaGreatDoorSa09
namespace Go.Proofs.YteamaneompijkaaGreatDoor
open Go.ChangeShapes Go.WideShapes Go.ChangeAt Go.RowKit
set_option maxRecDepth 100000
set_option maxHeartbeats 8000000
section
attribute [local go_sem] Oper.semAt_some taTF taTT taFF taFT
def linkO : Option Nd → Option Nd → Option Nd
  | none, b => b
  | some a, none => some a
  | some a, some b => some (linkN a b)
theorem linkO_txt (a b : Option Nd) : txtO (linkO a b) = txtO a ++ txtO b := by
  cases a with
  | none => simp [linkO, txtO]
  | some a =>
    cases b with
    | none => simp [linkO, txtO]
    | some b => exact linkN_txt a b
theorem linkedO9_at (a b : Option Nd) (va vb : Value) (w : World) (ha : NdV w va a) (hb : NdV w vb b) (hn : (txtO a).length + (txtO b).length ≤ 268435456) (hW : Wt w) :
    Calls Tryz.prog 92 #[va, vb] w fun y w' => ∃ v, y = .returned v ∧ NdV w' v (linkO a b) ∧ Below w.heap.size w w' := by
  have hif := ifn9
  have hnil := nil9
  cases a with
  | none =>
    obtain rfl : va = .nilIface := ha
    have HB := hide hb
    clear hb hn hW
    go_enter Tryz.func92, Tryz.ntmps92
    go_wp2_with fail
    go_ret
    exact ⟨_, rfl, unhide HB, Below.refl _ _⟩
  | some a =>
    cases b with
    | none =>
      obtain rfl : vb = .nilIface := hb
      have ha : IsNd w va a := ha
      obtain ⟨Ta, ua, rfl⟩ := ha.form
      have HA := hide ha
      clear ha hn hW
      go_enter Tryz.func92, Tryz.ntmps92
      go_wp2_with fail
      go_ret
      exact ⟨_, rfl, unhide HA, Below.refl _ _⟩
    | some b => exact linked9_at _ a b va vb w (Nat.le_refl _) ha hb hn hW
def wfN : Nd → Option Nd
  | .tip _ => none
  | .fork a b => linkO (wfN a) (some b)
theorem wfN_txt : ∀ t : Nd, t.txt = t.first ++ txtO (wfN t)
  | .tip l => by simp [Nd.txt, Nd.first, wfN, txtO]
  | .fork a b => by
    rw [wfN, linkO_txt, Nd.txt, wfN_txt a, Nd.first, List.append_assoc]
    rfl
theorem withoutFirst9_at : ∀ (t : Nd) (v : Value) (w : World), IsNd w v t → t.txt.length ≤ 268435456 → Wt w →
    Calls Tryz.prog 98 #[v] w fun y w' => ∃ v', y = .returned v' ∧ NdV w' v' (wfN t) ∧ Below w.heap.size w w'
  | .tip l, v, w, h, _, _ => by
    obtain ⟨g, rfl, _⟩ := h
    unfold tipV
    go_enter Tryz.func98, Tryz.ntmps98
    go_wp2_with fail
    go_ret
    exact ⟨_, rfl, rfl, Below.refl _ _⟩
  | .fork a b, v, w, h, hn, hW => by
    obtain ⟨g, va, vb, rfl, hc, ha, hb⟩ := h
    have D0 := (Below.refl w.heap.size w).drew
    have hn1 : a.txt.length + b.txt.length ≤ 268435456 := by simpa [Nd.txt] using hn
    have hn2 : (txtO (wfN a)).length + (txtO (some b)).length ≤ 268435456 := by
      have := congrArg List.length (wfN_txt a)
      rw [List.length_append] at this
      show _ + b.txt.length ≤ _
      omega
    have hI := withoutFirst9_at a va w.drew (IsNd.on D0 ha) (by omega) (hW.below D0)
    have HI := hide hI
    have HB := hide hb
    have HN2 := hide hn2
    have HWW := hide fun (X : World) (h : Below w.heap.size w X) => hW.below h
    have HBK := hide fun (X : World) (h : Below w.heap.size w X) => bk9_on hc h
    have HSW : Hid (∀ X : World, Below w.heap.size w X → (fun w' : World => w'.cell? ⟨g, 0, none⟩ = some va ∧ w'.cell? ⟨g, 1, none⟩ = some vb) X) := hide fun X h => by
      have h9 := unhide HBK X h
      unfold forkC at h9
      obtain ⟨c0, c1, _⟩ := cells9 h9
      exact ⟨c0, c1⟩
    clear hI ha hb hn hn1 hn2 hW hc HBK
    unfold forkV
    go_enter Tryz.func98, Tryz.ntmps98
    go_wp2_with fail
    refine regionL (S := fun w' => w'.cell? ⟨g, 0, none⟩ = some va ∧ w'.cell? ⟨g, 1, none⟩ = some vb) (fun _ => false) (by kernel_rfl) ?_
    generalize w.drew = y0 at *
    refine anyL_take (i := 0) (v := ?vwf0) rfl (by kernel_rfl) (by kernel_rfl) (by kernel_rfl) (by kernel_rfl) (fun _ _ _ h => h) (Or.inl ⟨by rfl, ?hwf0⟩) (unhide HSW _ D0) ?_
    case hwf0 => (intro w hSw; (try dsimp only at hSw); go_simp) <;> with_reducible rfl
    simp only [Act.put, List.getElem_toArray, List.getElem_cons_zero, List.setIfInBounds_toArray, List.set_cons_zero, List.set_cons_succ]
    refine anyL_take (i := 1) (v := ?vwf1) rfl (by kernel_rfl) (by kernel_rfl) (by kernel_rfl) (by kernel_rfl) (fun _ _ _ h => h) (Or.inl ⟨by rfl, ?hwf1⟩) (unhide HSW _ D0) ?_
    case hwf1 => (intro w hSw; (try dsimp only at hSw); go_simp) <;> with_reducible rfl
    simp only [Act.put, List.getElem_toArray, List.getElem_cons_zero, List.getElem_cons_succ, List.setIfInBounds_toArray, List.set_cons_zero, List.set_cons_succ]
    refine anyL_take (i := 2) (v := ?vwf2) rfl (by kernel_rfl) (by kernel_rfl) (by kernel_rfl) (by kernel_rfl) (fun _ _ _ h => h) (Or.inl ⟨by rfl, ?hwf2⟩) (unhide HSW _ D0) ?_
    case hwf2 => (intro w hSw; (try dsimp only at hSw); go_simp) <;> with_reducible rfl
    simp only [Act.put, List.getElem_toArray, List.getElem_cons_zero, List.getElem_cons_succ, List.setIfInBounds_toArray, List.set_cons_zero, List.set_cons_succ]
    refine anyL_take (i := 3) (v := ?vwf3) rfl (by kernel_rfl) (by kernel_rfl) (by kernel_rfl) (by kernel_rfl) (fun _ _ _ h => h) (Or.inl ⟨by rfl, ?hwf3⟩) (unhide HSW _ D0) ?_
    case hwf3 => (intro w hSw; (try dsimp only at hSw); go_simp) <;> with_reducible rfl
    simp only [Act.put, List.getElem_toArray, List.getElem_cons_zero, List.getElem_cons_succ, List.setIfInBounds_toArray, List.set_cons_zero, List.set_cons_succ]
    refine anyL_take (i := 5) (v := ?vwf4) rfl (by kernel_rfl) (by kernel_rfl) (by kernel_rfl) (by kernel_rfl) (fun _ _ _ h => h) (Or.inl ⟨by rfl, ?hwf4⟩) (unhide HSW _ D0) ?_
    case hwf4 => (intro w hSw; (try dsimp only at hSw); go_simp) <;> with_reducible rfl
    simp only [Act.put, List.getElem_toArray, List.getElem_cons_zero, List.getElem_cons_succ, List.setIfInBounds_toArray, List.set_cons_zero, List.set_cons_succ]
    refine anyL_take (i := 6) (v := ?vwf5) rfl (by kernel_rfl) (by kernel_rfl) (by kernel_rfl) (by kernel_rfl) (fun _ _ _ h => h) (Or.inl ⟨by rfl, ?hwf5⟩) (unhide HSW _ D0) ?_
    case hwf5 => (intro w hSw; (try dsimp only at hSw); go_simp) <;> with_reducible rfl
    simp only [Act.put, List.getElem_toArray, List.getElem_cons_zero, List.getElem_cons_succ, List.setIfInBounds_toArray, List.set_cons_zero, List.set_cons_succ]
    refine anyL_take (i := 7) (v := ?vwf6) rfl (by kernel_rfl) (by kernel_rfl) (by kernel_rfl) (by kernel_rfl) (fun _ _ _ h => h) (Or.inl ⟨by rfl, ?hwf6⟩) (unhide HSW _ D0) ?_
    case hwf6 => (intro w hSw; (try dsimp only at hSw); go_simp) <;> with_reducible rfl
    simp only [Act.put, List.getElem_toArray, List.getElem_cons_zero, List.getElem_cons_succ, List.setIfInBounds_toArray, List.set_cons_zero, List.set_cons_succ]
    refine anyL_take (i := 8) (v := ?vwf7) rfl (by kernel_rfl) (by kernel_rfl) (by kernel_rfl) (by kernel_rfl) (fun _ _ _ h => h) (Or.inl ⟨by rfl, ?hwf7⟩) (unhide HSW _ D0) ?_
    case hwf7 => (intro w hSw; (try dsimp only at hSw); go_simp) <;> with_reducible rfl
    simp only [Act.put, List.getElem_toArray, List.getElem_cons_zero, List.getElem_cons_succ, List.setIfInBounds_toArray, List.set_cons_zero, List.set_cons_succ]
    refine anyL_ready (rs := [4]) (by kernel_rfl) (by simp) ?_
    refine AllL.cons rfl (fun K hK => ?_) AllL.nil
    go_simp
    refine (unhide HI).mono ?_
    rintro e y1 ⟨v1, rfl, n1, x1⟩
    have D1 := D0.trans (x1.mono D0.size)
    refine unhide hK _ _ (fun _ => unhide HSW _ D1) ?_
    clear hK K x1 D0 HI
    refine anyL_ready (rs := [9]) (by kernel_rfl) (by simp) ?_
    refine AllL.cons rfl (fun K hK => ?_) AllL.nil
    go_simp
    refine (linkedO9_at (wfN a) (some b) v1 vb _ n1 (IsNd.on D1 (unhide HB)) (unhide HN2) (unhide HWW _ D1)).mono ?_
    rintro e y2 ⟨v2, rfl, n2, x2⟩
    have D2 := D1.trans (x2.mono D1.size)
    have HR := hide n2
    have HD := hide D2
    refine unhide hK _ _ (fun _ => unhide HSW _ D2) ?_
    clear hK K x2 D1 n1
    refine anyL_take (i := 10) (v := ?vwf8) rfl (by kernel_rfl) (by kernel_rfl) (by kernel_rfl) (by kernel_rfl) (fun _ _ _ h => h) (Or.inl ⟨by rfl, ?hwf8⟩) (unhide HSW _ D2) ?_
    case hwf8 => (intro w hSw; (try dsimp only at hSw); go_simp) <;> with_reducible rfl
    simp only [Act.put, List.getElem_toArray, List.getElem_cons_zero, List.getElem_cons_succ, List.setIfInBounds_toArray, List.set_cons_zero, List.set_cons_succ]
    refine anyL_done (by kernel_rfl) ?_ _
    go_wp2_with fail
    go_ret
    exact ⟨_, rfl, unhide HR, unhide HD⟩
end
section
attribute [local go_sem] Oper.semAt_some
def Nd.ahead : Nd → List Int
  | .tip _ => []
  | .fork a b => a.txt ++ b.ahead
theorem last_txt : ∀ t : Nd, t.txt = t.ahead ++ t.last
  | .tip l => by simp [Nd.txt, Nd.ahead, Nd.last]
  | .fork a b => by rw [Nd.txt, last_txt b, Nd.ahead, Nd.last, List.append_assoc]
theorem set_txt (p : List Int) : ∀ t : Nd, (t.setLast p).txt = t.ahead ++ p
  | .tip l => by simp [Nd.txt, Nd.setLast, Nd.ahead]
  | .fork a b => by rw [Nd.setLast, Nd.txt, set_txt p b, Nd.ahead, List.append_assoc]
theorem last_in {W : World} : ∀ (t : Nd) (v : Value), IsNd W v t → 0 < t.last.length ∧ ∀ x ∈ t.last, 0 ≤ x ∧ x ≤ 255
  | .tip l, v, h => by
    obtain ⟨_, _, _, h1, _, h3⟩ := h
    rw [Nd.last]
    exact ⟨h1, h3⟩
  | .fork a b, v, h => by
    obtain ⟨_, _, vb, _, _, _, hb⟩ := h
    rw [Nd.last]
    exact last_in b vb hb
theorem first_in {W : World} : ∀ (t : Nd) (v : Value), IsNd W v t → 0 < t.first.length ∧ ∀ x ∈ t.first, 0 ≤ x ∧ x ≤ 255
  | .tip l, v, h => by
    obtain ⟨_, _, _, h1, _, h3⟩ := h
    rw [Nd.first]
    exact ⟨h1, h3⟩
  | .fork a b, v, h => by
    obtain ⟨_, va, _, _, _, ha, _⟩ := h
    rw [Nd.first]
    exact first_in a va ha
def joinO : Option Nd → Option Nd → Option Nd
  | some a, some b => if 1024 < a.last.length + b.first.length then some (linkN a b) else linkO (some (a.setLast (a.last ++ b.first))) (wfN b)
  | a, b => linkO a b
theorem joinO_some (a b : Nd) : joinO (some a) (some b) = if 1024 < a.last.length + b.first.length then some (linkN a b) else linkO (some (a.setLast (a.last ++ b.first))) (wfN b) := rfl
theorem joinO_txt (a b : Option Nd) : txtO (joinO a b) = txtO a ++ txtO b := by
  cases a with
  | none => exact linkO_txt none b
  | some a =>
    cases b with
    | none => exact linkO_txt (some a) none
    | some b =>
      rw [joinO_some]
      split
      · exact linkN_txt a b
      · rw [linkO_txt]
        show (a.setLast _).txt ++ _ = a.txt ++ b.txt
        rw [set_txt, wfN_txt b, last_txt a]
        simp
theorem joinN9_at (a b : Nd) (va vb : Value) (w : World) (ha : IsNd w va a) (hb : IsNd w vb b) (hn : a.txt.length + b.txt.length ≤ 268435456) (hW : Wt w) :
    Calls Tryz.prog 56 #[va, vb] w fun y w' => ∃ v, y = .returned v ∧ NdV w' v (joinO (some a) (some b)) ∧ Below w.heap.size w w' := by
  obtain ⟨Ta, ua, rfl⟩ := ha.form
  obtain ⟨Tb, ub, rfl⟩ := hb.form
  have hif := ifn9
  have hia := last_in _ _ ha
  have hib := first_in _ _ hb
  have hla := congrArg List.length (last_txt a)
  have hlb := congrArg List.length (wfN_txt b)
  rw [List.length_append] at hla hlb
  have hwr : IntKind.i64.wrap ((a.last.length : Int) + (b.first.length : Int)) = (a.last.length : Int) + (b.first.length : Int) := by rw [IntKind.wrap_i64]; omega
  have HA := hide ha
  have HB := hide hb
  have HW := hide hW
  have HN := hide hn
  have HIA := hide hia
  have HIB := hide hib
  have HLA := hide hla
  have HLB := hide hlb
  clear ha hb hW hn hia hib hla hlb
  go_enter Tryz.func56, Tryz.ntmps56
  go_wp2_with fail
  refine (lastLeaf9_at a (.iface Ta ua) w (unhide HA)).mono ?_
  rintro y w1 ⟨ga, rfl, f1, x1⟩
  dsimp only
  have hb1 := IsNd.on x1 (unhide HB)
  go_wp2_with fail
  refine (firstLeaf9_at b (.iface Tb ub) w1 hb1).mono ?_
  rintro y w2 ⟨gb, rfl, f2, x2⟩
  dsimp only
  have f12 := f1.on x2
  have x12 := x1.trans (x2.mono x1.size)
  have HA2 := hide (IsNd.on x12 (unhide HA))
  have HB2 := hide (IsNd.on x12 (unhide HB))
  have HW2 := hide ((unhide HW).below x12)
  have HX2 := hide x12
  have F1 := hide f12
  have F2 := hide f2
  clear hb1 x1 x2 x12 f1 f12 f2 HA HB HW
  go_wp2_with fail
  refine (LenL_at ga a.last w2 (unhide F1)).mono ?_
  rintro y w2' ⟨rfl, rfl⟩
  dsimp only
  go_wp2_with fail
  refine (LenL_at gb b.first w2' (unhide F2)).mono ?_
  rintro y w2 ⟨rfl, rfl⟩
  dsimp only
  by_cases c1 : 1024 < a.last.length + b.first.length
  · have t1 : (1024 : Int) < (a.last.length : Int) + (b.first.length : Int) := by omega
    have HK : Hid (joinO (some a) (some b) = some (linkN a b)) := hide (by rw [joinO_some, if_pos c1])
    clear c1
    go_wp2_with fail
    refine (linked9_at _ a b (.iface Ta ua) (.iface Tb ub) w2 (Nat.le_refl _) (unhide HA2) (unhide HB2) (unhide HN) (unhide HW2)).mono ?_
    rintro y w3 ⟨v3, rfl, n3, x3⟩
    dsimp only
    go_wp2_with fail
    go_ret
    exact ⟨_, rfl, by rw [unhide HK]; exact n3, (unhide HX2).trans (x3.mono (unhide HX2).size)⟩
  · have t1 : ¬ ((1024 : Int) < (a.last.length : Int) + (b.first.length : Int)) := by omega
    have HK : Hid (joinO (some a) (some b) = linkO (some (a.setLast (a.last ++ b.first))) (wfN b)) := hide (by rw [joinO_some, if_neg c1])
    have HC := hide c1
    clear c1
    go_wp2_with fail
    refine (JoinL_at ga gb a.last b.first w2 (unhide F1) (unhide F2) (unhide HIA).2 (unhide HIB).2 (unhide HW2) (by have := unhide HC; omega)).mono ?_
    rintro y w3 ⟨gm, rfl, f3, x3⟩
    dsimp only
    have HA3 := hide (IsNd.on x3 (unhide HA2))
    have HB3 := hide (IsNd.on x3 (unhide HB2))
    have F3 := hide f3
    clear f3
    go_wp2_with fail
    refine (withLast9_at gm (a.last ++ b.first) (by have := (unhide HIA).1; rw [List.length_append]; omega) (by have := unhide HC; rw [List.length_append]; omega) (fun x hx => (List.mem_append.1 hx).elim ((unhide HIA).2 x) ((unhide HIB).2 x)) a (.iface Ta ua) w3 (unhide HA3) (unhide F3) (by rw [set_txt, List.length_append, List.length_append]; have := unhide HLA; have := unhide HLB; have := unhide HN; omega) ((unhide HW2).below x3)).mono ?_
    rintro y w4 ⟨v4, rfl, n4, x4⟩
    dsimp only
    have x34 := x3.trans (x4.mono x3.size)
    have HB4 := hide (IsNd.on x4 (unhide HB3))
    have N4 := hide n4
    clear n4
    go_wp2_with fail
    refine (withoutFirst9_at b (.iface Tb ub) w4 (unhide HB4) (by have := unhide HN; omega) ((unhide HW2).below x34)).mono ?_
    rintro y w5 ⟨v5, rfl, n5, x5⟩
    dsimp only
    have x35 := x34.trans (x5.mono x34.size)
    have N5 := hide n5
    have N45 := hide (IsNd.on x5 (unhide N4))
    clear n5
    go_wp2_with fail
    refine (linkedO9_at (some (a.setLast (a.last ++ b.first))) (wfN b) v4 v5 w5 (unhide N45) (unhide N5) (by show (a.setLast _).txt.length + _ ≤ _; rw [set_txt, List.length_append, List.length_append]; have := unhide HLA; have := unhide HLB; have := unhide HN; omega) ((unhide HW2).below x35)).mono ?_
    rintro y w6 ⟨v6, rfl, n6, x6⟩
    dsimp only
    have x36 := x35.trans (x6.mono x35.size)
    go_wp2_with fail
    go_ret
    exact ⟨_, rfl, by rw [unhide HK]; exact n6, (unhide HX2).trans (x36.mono (unhide HX2).size)⟩
theorem joinO9_at (a b : Option Nd) (va vb : Value) (w : World) (ha : NdV w va a) (hb : NdV w vb b) (hn : (txtO a).length + (txtO b).length ≤ 268435456) (hW : Wt w) :
    Calls Tryz.prog 56 #[va, vb] w fun y w' => ∃ v, y = .returned v ∧ NdV w' v (joinO a b) ∧ Below w.heap.size w w' := by
  have hif := ifn9
  have hnil := nil9
  cases a with
  | none =>
    have HL := hide (linkedO9_at none b va vb w ha hb hn hW)
    obtain rfl : va = .nilIface := ha
    clear hb hn hW
    go_enter Tryz.func56, Tryz.ntmps56
    go_wp2_with fail
    refine (unhide HL).mono ?_
    rintro y w1 ⟨v1, rfl, n1, x1⟩
    dsimp only
    go_wp2_with fail
    go_ret
    exact ⟨_, rfl, n1, x1⟩
  | some a =>
    cases b with
    | none =>
      have HL := hide (linkedO9_at (some a) none va vb w ha hb hn hW)
      obtain rfl : vb = .nilIface := hb
      have ha : IsNd w va a := ha
      obtain ⟨Ta, ua, rfl⟩ := ha.form
      clear ha hn hW
      go_enter Tryz.func56, Tryz.ntmps56
      go_wp2_with fail
      refine (unhide HL).mono ?_
      rintro y w1 ⟨v1, rfl, n1, x1⟩
      dsimp only
      go_wp2_with fail
      go_ret
      exact ⟨_, rfl, n1, x1⟩
    | some b => exact joinN9_at a b va vb w ha hb hn hW
end
section
attribute [local go_sem] Oper.semAt_some taTF taTT taFF taFT
end
section
attribute [local go_sem] Oper.semAt_some
def spanE (n : Nat) (lo hi : Int) : Int := if lo < 0 ∨ hi < lo ∨ (n : Int) < hi then 2 else 0
theorem span9_at (g : Nat) (o : Option Nd) (lo hi : Int) (w : World) (h : IsRo w g o) :
    Calls Tryz.prog 45 #[.pointer (some ⟨g, 0, none⟩), .int .i64 lo, .int .i64 hi] w fun y w' => y = .returned (.int .i64 (spanE (txtO o).length lo hi)) ∧ Below w.heap.size w w' := by
  have HL := hide (Len9_at g o w h)
  clear h
  unfold spanE
  by_cases c1 : lo < 0
  · rw [if_pos (Or.inl c1)]
    go_enter Tryz.func45, Tryz.ntmps45
    go_wp2_with fail
    go_ret
    exact ⟨rfl, Below.refl _ _⟩
  by_cases c2 : hi < lo
  · rw [if_pos (Or.inr (Or.inl c2))]
    go_enter Tryz.func45, Tryz.ntmps45
    go_wp2_with fail
    go_ret
    exact ⟨rfl, Below.refl _ _⟩
  by_cases c3 : ((txtO o).length : Int) < hi
  · rw [if_pos (Or.inr (Or.inr c3))]
    go_enter Tryz.func45, Tryz.ntmps45
    go_wp2_with fail
    refine (unhide HL).mono ?_
    rintro y w1 ⟨rfl, x1⟩
    dsimp only
    go_wp2_with fail
    go_ret
    exact ⟨rfl, x1⟩
  · rw [if_neg (by omega)]
    go_enter Tryz.func45, Tryz.ntmps45
    go_wp2_with fail
    refine (unhide HL).mono ?_
    rintro y w1 ⟨rfl, x1⟩
    dsimp only
    go_wp2_with fail
    go_ret
    exact ⟨rfl, x1⟩
end
section
attribute [local go_sem] Oper.semAt_some
theorem wpList_meas {ops : Array Oper} {rest : List Oper} {o : Oper} {a : Act} {Q : Exit → Act → World → Prop} {w : World} (hw : Region.wanted o (yielded ops a.tmps) = true) (x : Operand)
    (ho : o.op = .call { callee := .invoke x "galley/rope.measure", args := #[], argTypes := #[] }) (v : Value) (t : Nd) (hx : a.eval x = v) (hN : IsNd w v t)
    (h : ∀ w', Below w.heap.size w w' → wpList Tryz.prog ops Q rest (a.put o.dst (weV (ofL t.txt))) w') : wpList Tryz.prog ops Q (o :: rest) a w := by
  cases t with
  | tip l =>
    obtain ⟨g, rfl, hf, _⟩ := hN
    unfold wpList
    rw [if_pos hw]
    left
    unfold Oper.wp
    unfold execOp
    simp only [ho, resolve, invoke, hx, tipV]
    go_simp
    go_invoke
    go_simp
    refine (tipM_at _ g l w rfl hf).mono ?_
    rintro y w1 ⟨rfl, x1⟩
    exact h w1 x1
  | fork p q =>
    obtain ⟨g, va, vb, rfl, hc, _, _⟩ := hN
    unfold wpList
    rw [if_pos hw]
    left
    unfold Oper.wp
    unfold execOp
    simp only [ho, resolve, invoke, hx, forkV]
    go_simp
    go_invoke
    go_simp
    refine (forkM_at g va vb _ _ w hc).mono ?_
    rintro y w1 ⟨rfl, x1⟩
    exact h w1 x1
theorem Weld9_at (g : Nat) (o : Option Nd) (w : World) (h : IsRo w g o) :
    Calls Tryz.prog 14 #[.pointer (some ⟨g, 0, none⟩)] w fun y w' => y = .returned (weV (ofL (txtO o))) ∧ Below w.heap.size w w' := by
  have b0 := (Below.refl w.heap.size w).alloc (Nat.le_refl _) (.cells #[.int .i64 0, .int .i64 0, .int .i64 0, .int .i64 0, .string ⟨#[]⟩, .string ⟨#[]⟩] 47)
  have g0 := push_get w (.cells #[.int .i64 0, .int .i64 0, .int .i64 0, .int .i64 0, .string ⟨#[]⟩, .string ⟨#[]⟩] 47)
  obtain ⟨v, h1, h2⟩ := h
  have k1 := bk9_on h1 b0
  have n1 := NdV.on b0 h2
  clear h1 h2
  have hif := ifn9'
  have hnil := nil9'
  go_enter Tryz.func14, Tryz.ntmps14
  go_upto_region 1 with fail
  generalize w.alloc (.cells #[.int .i64 0, .int .i64 0, .int .i64 0, .int .i64 0, .string ⟨#[]⟩, .string ⟨#[]⟩] 47) = w0 at *
  have HG := hide g0
  have HB := hide b0
  have HK := hide k1
  have HN := hide n1
  have hfm := n1.form
  clear g0 b0 k1 n1
  go_wp2_with fail
  refine (top9_at g v w0 (unhide HK)).mono ?_
  rintro y w0' ⟨rfl, rfl⟩
  dsimp only
  generalize w0' = w0 at *
  cases o with
  | none =>
    obtain rfl : v = .nilIface := unhide HN
    obtain ⟨c0, c1, c2, c3, c4, c5, f⟩ := cells6 (unhide HG)
    have f0 := f 0
    have f1 := f 1
    have f2 := f 2
    have f3 := f 3
    have f4 := f 4
    have f5 := f 5
    have HF := hide (box6_all (unhide HG) (.int .i64 0) (.int .i64 0) (.int .i64 0) (.int .i64 0) (.string ⟨#[]⟩) (.string ⟨#[]⟩))
    have HD := hide (below6 (unhide HB) (Nat.le_refl _) (.int .i64 0) (.int .i64 0) (.int .i64 0) (.int .i64 0) (.string ⟨#[]⟩) (.string ⟨#[]⟩))
    clear f hfm
    go_wp2_with fail
    obtain ⟨c0, c1, c2, c3, c4, c5, _⟩ := cells6 (unhide HF)
    refine bodyPost_ret (v := .agg #[.int .i64 0, .int .i64 0, .int .i64 0, .int .i64 0, .string ⟨#[]⟩, .string ⟨#[]⟩]) (by simp [results, Tryz.results14, go_sem, c0, c1, c2, c3, c4, c5]) rfl ⟨rfl, unhide HD⟩
  | some t =>
    have hN : IsNd w0 v t := unhide HN
    obtain ⟨T, u, rfl⟩ := hN.form
    have HNN := hide hN
    clear hN hfm HN
    go_wp2_with (refine wpList_meas rfl (.tmp 8) rfl (.iface T u) t rfl (unhide HNN) ?_)
    intro w1 x1
    have hg := bk9_on (unhide HG) x1
    have hd := (unhide HB).trans (x1.mono (unhide HB).size)
    have hw9 := weq9 t.txt
    have HV := hide hw9
    rw [hw9]
    clear hw9
    have HTX : Hid (txtO (some t) = t.txt) := hide rfl
    generalize (szL t.txt).b = zb at *
    generalize (szL t.txt).r = zr at *
    generalize (szL t.txt).u = zu at *
    generalize (szL t.txt).e = ze at *
    generalize strOfNums (List.take 3 t.txt) = zh at *
    generalize strOfNums (tail3 t.txt) = zt at *
    obtain ⟨c0, c1, c2, c3, c4, c5, f⟩ := cells6 hg
    have f0 := f 0
    have f1 := f 1
    have f2 := f 2
    have f3 := f 3
    have f4 := f 4
    have f5 := f 5
    have HF := hide (box6_all hg (.int .i64 zb) (.int .i64 zr) (.int .i64 zu) (.int .i64 ze) (.string zh) (.string zt))
    have HD := hide (below6 hd (Nat.le_refl _) (.int .i64 zb) (.int .i64 zr) (.int .i64 zu) (.int .i64 ze) (.string zh) (.string zt))
    clear f hg hd
    go_wp2_with fail
    obtain ⟨c0, c1, c2, c3, c4, c5, _⟩ := cells6 (unhide HF)
    refine bodyPost_ret (v := .agg #[.int .i64 zb, .int .i64 zr, .int .i64 zu, .int .i64 ze, .string zh, .string zt]) (by simp [results, Tryz.results14, go_sem, c0, c1, c2, c3, c4, c5]) rfl ⟨by rw [unhide HTX, unhide HV], unhide HD⟩
end
section
theorem taNF (w : World) : (Instr.typeAssert .nilIface 95 175 true).run Tryz.prog w = .ok (.tuple #[.pointer none, .bool false]) w := by kernel_rfl
theorem taNT (w : World) : (Instr.typeAssert .nilIface 95 179 true).run Tryz.prog w = .ok (.tuple #[.agg #[.pointer none], .bool false]) w := by kernel_rfl
attribute [local go_sem] Oper.semAt_some taTF taTT taFF taFT taNF taNT
theorem beforeO9_at (o : Option Nd) (v : Value) (n : Nat) (w : World) (h : NdV w v o) (hn : n ≤ (txtO o).length) (hm : (txtO o).length ≤ 268435456) (hW : Wt w) :
    Calls Tryz.prog 89 #[v, .int .i64 (n : Int)] w fun y w' => y = .returned (weV (ofL ((txtO o).take n))) ∧ Below w.heap.size w w' := by
  cases o with
  | none =>
    obtain rfl : v = .nilIface := h
    obtain rfl : n = 0 := by simpa [txtO] using hn
    clear hn hm hW
    have b0 := (Below.refl w.heap.size w).alloc (Nat.le_refl _) (.cells #[.int .i64 0, .int .i64 0, .int .i64 0, .int .i64 0, .string ⟨#[]⟩, .string ⟨#[]⟩] 47)
    have g0 := push_get w (.cells #[.int .i64 0, .int .i64 0, .int .i64 0, .int .i64 0, .string ⟨#[]⟩, .string ⟨#[]⟩] 47)
    go_enter Tryz.func89, Tryz.ntmps89
    go_upto_region 1 with fail
    generalize w.alloc (.cells #[.int .i64 0, .int .i64 0, .int .i64 0, .int .i64 0, .string ⟨#[]⟩, .string ⟨#[]⟩] 47) = w0 at *
    obtain ⟨c0, c1, c2, c3, c4, c5, f⟩ := cells6 g0
    have f0 := f 0
    have f1 := f 1
    have f2 := f 2
    have f3 := f 3
    have f4 := f 4
    have f5 := f 5
    have HF := hide (box6_all g0 (.int .i64 0) (.int .i64 0) (.int .i64 0) (.int .i64 0) (.string ⟨#[]⟩) (.string ⟨#[]⟩))
    have HD := hide (below6 b0 (Nat.le_refl _) (.int .i64 0) (.int .i64 0) (.int .i64 0) (.int .i64 0) (.string ⟨#[]⟩) (.string ⟨#[]⟩))
    clear f
    go_wp2_with fail
    obtain ⟨c0, c1, c2, c3, c4, c5, _⟩ := cells6 (unhide HF)
    refine bodyPost_ret (v := .agg #[.int .i64 0, .int .i64 0, .int .i64 0, .int .i64 0, .string ⟨#[]⟩, .string ⟨#[]⟩]) (by simp [results, Tryz.results89, go_sem, c0, c1, c2, c3, c4, c5]) rfl ⟨rfl, unhide HD⟩
  | some t => exact before9_at t v w n h hn hm hW
theorem BeforeR9_at (g : Nat) (o : Option Nd) (n : Nat) (w : World) (h : IsRo w g o) (hn : n ≤ (txtO o).length) (hm : (txtO o).length ≤ 268435456) (hW : Wt w) :
    Calls Tryz.prog 53 #[.pointer (some ⟨g, 0, none⟩), .int .i64 (n : Int)] w fun y w' => y = .returned (.tuple #[weV (ofL ((txtO o).take n)), .int .i64 0]) ∧ Below w.heap.size w w' := by
  have b0 := (Below.refl w.heap.size w).alloc (Nat.le_refl _) (.cells #[.int .i64 0, .int .i64 0, .int .i64 0, .int .i64 0, .string ⟨#[]⟩, .string ⟨#[]⟩] 47)
  have g0 := push_get w (.cells #[.int .i64 0, .int .i64 0, .int .i64 0, .int .i64 0, .string ⟨#[]⟩, .string ⟨#[]⟩] 47)
  have hs := span9_at g o 0 (n : Int) _ (h.on b0)
  have e : spanE (txtO o).length 0 (n : Int) = 0 := by unfold spanE; rw [if_neg (by omega)]
  rw [e] at hs
  have HS := hide hs
  obtain ⟨v, h1, h2⟩ := h
  have HV := hide fun (X : World) (hx : Below w.heap.size w X) => NdV.on hx h2
  have HC := hide fun (X : World) (hx : Below w.heap.size w X) => bk9_on h1 hx
  have HW := hide fun (X : World) (hx : Below w.heap.size w X) => hW.below hx
  have HN := hide (And.intro hn hm)
  have HQ := hide (weq9 ((txtO o).take n))
  clear hs e h1 h2 hW hn hm
  go_enter Tryz.func53, Tryz.ntmps53
  go_upto_region 1 with fail
  generalize w.alloc (.cells #[.int .i64 0, .int .i64 0, .int .i64 0, .int .i64 0, .string ⟨#[]⟩, .string ⟨#[]⟩] 47) = w0 at *
  go_wp2_with fail
  refine (unhide HS).mono ?_
  rintro y w1 ⟨rfl, x1⟩
  dsimp only
  have x01 := b0.trans (x1.mono b0.size)
  have c : w1.cell? ⟨g, 0, none⟩ = some v := by simp only [World.cell?, unhide HC w1 x01]; rfl
  have hbe := beforeO9_at o v n w1 (unhide HV w1 x01) (unhide HN).1 (unhide HN).2 (unhide HW w1 x01)
  rw [weq9] at hbe
  have HBE := hide hbe
  have k1 := bk9_on g0 x1
  clear hbe
  generalize (szL (List.take n (txtO o))).b = zb at *
  generalize (szL (List.take n (txtO o))).r = zr at *
  generalize (szL (List.take n (txtO o))).u = zu at *
  generalize (szL (List.take n (txtO o))).e = ze at *
  generalize strOfNums (List.take 3 (List.take n (txtO o))) = zh at *
  generalize strOfNums (tail3 (List.take n (txtO o))) = zt at *
  go_wp2_with fail
  refine (unhide HBE).mono ?_
  rintro y w2 ⟨rfl, x2⟩
  dsimp only
  have hg := bk9_on k1 x2
  have hd := x01.trans (x2.mono x01.size)
  obtain ⟨c0, c1, c2, c3, c4, c5, f⟩ := cells6 hg
  have f0 := f 0
  have f1 := f 1
  have f2 := f 2
  have f3 := f 3
  have f4 := f 4
  have f5 := f 5
  have HF := hide (box6_all hg (.int .i64 zb) (.int .i64 zr) (.int .i64 zu) (.int .i64 ze) (.string zh) (.string zt))
  have HD := hide (below6 hd (Nat.le_refl _) (.int .i64 zb) (.int .i64 zr) (.int .i64 zu) (.int .i64 ze) (.string zh) (.string zt))
  clear f hg hd c
  go_wp2_with fail
  obtain ⟨c0, c1, c2, c3, c4, c5, _⟩ := cells6 (unhide HF)
  refine bodyPost_ret (v := .tuple #[.agg #[.int .i64 zb, .int .i64 zr, .int .i64 zu, .int .i64 ze, .string zh, .string zt], .int .i64 0]) (by simp [results, Tryz.results53, go_sem, c0, c1, c2, c3, c4, c5]) rfl ⟨by rw [unhide HQ], unhide HD⟩
end
section
attribute [local go_sem] Oper.semAt_some
theorem RoJoin9_at (ga gb : Nat) (a b : Option Nd) (w : World) (ha : IsRo w ga a) (hb : IsRo w gb b) (hn : (txtO a).length + (txtO b).length ≤ 268435456) (hW : Wt w) :
    Calls Tryz.prog 23 #[.pointer (some ⟨ga, 0, none⟩), .pointer (some ⟨gb, 0, none⟩)] w fun y w' => ∃ g, y = .returned (.tuple #[.pointer (some ⟨g, 0, none⟩), .int .i64 0]) ∧ IsRo w' g (joinO a b) ∧ Below w.heap.size w w' := by
  have HLa := hide (Len9_at ga a w ha)
  have HLb := hide fun (X : World) (hx : Below w.heap.size w X) => Len9_at gb b X (hb.on hx)
  obtain ⟨va, a1, a2⟩ := ha
  obtain ⟨vb, b1, b2⟩ := hb
  have HA := hide fun (X : World) (hx : Below w.heap.size w X) => NdV.on hx a2
  have HB := hide fun (X : World) (hx : Below w.heap.size w X) => NdV.on hx b2
  have HW := hide fun (X : World) (hx : Below w.heap.size w X) => hW.below hx
  have HN := hide hn
  have HSW : Hid (∀ X : World, Below w.heap.size w X → (fun w' => w'.cell? ⟨ga, 0, none⟩ = some va ∧ w'.cell? ⟨gb, 0, none⟩ = some vb) X) := hide fun X hx => ⟨by simp only [World.cell?, bk9_on a1 hx]; rfl, by simp only [World.cell?, bk9_on b1 hx]; rfl⟩
  have t1 : ¬ ((268435456 : Int) < ((txtO a).length : Int) + ((txtO b).length : Int)) := by omega
  have hwr : IntKind.i64.wrap (((txtO a).length : Int) + ((txtO b).length : Int)) = ((txtO a).length : Int) + ((txtO b).length : Int) := by rw [IntKind.wrap_i64]; omega
  clear a1 a2 b1 b2 hW hn
  go_enter Tryz.func23, Tryz.ntmps23
  go_wp2_with fail
  refine (unhide HLa).mono ?_
  rintro y w1 ⟨rfl, x1⟩
  dsimp only
  go_wp2_with fail
  refine (unhide HLb w1 x1).mono ?_
  rintro y w2 ⟨rfl, x2⟩
  dsimp only
  have D0 := (x1.trans (x2.mono x1.size)).drew
  clear x1 x2
  go_upto_region 5 with fail
  refine regionL (S := fun w' => w'.cell? ⟨ga, 0, none⟩ = some va ∧ w'.cell? ⟨gb, 0, none⟩ = some vb) (fun _ => false) (by kernel_rfl) ?_
  generalize w2.drew = y0 at *
  refine anyL_take (i := 0) (v := ?vrk0) rfl (by kernel_rfl) (by kernel_rfl) (by kernel_rfl) (by kernel_rfl) (fun _ _ _ h => h) (Or.inl ⟨by rfl, ?hrk0⟩) (unhide HSW _ D0) ?_
  case hrk0 => (intro w hSw; (try dsimp only at hSw); go_simp) <;> with_reducible rfl
  simp only [Act.put, List.getElem_toArray, List.getElem_cons_zero, List.setIfInBounds_toArray, List.set_cons_zero, List.set_cons_succ]
  refine anyL_take (i := 1) (v := ?vrk1) rfl (by kernel_rfl) (by kernel_rfl) (by kernel_rfl) (by kernel_rfl) (fun _ _ _ h => h) (Or.inl ⟨by rfl, ?hrk1⟩) (unhide HSW _ D0) ?_
  case hrk1 => (intro w hSw; (try dsimp only at hSw); go_simp) <;> with_reducible rfl
  simp only [Act.put, List.getElem_toArray, List.getElem_cons_zero, List.getElem_cons_succ, List.setIfInBounds_toArray, List.set_cons_zero, List.set_cons_succ]
  refine anyL_take (i := 2) (v := ?vrk2) rfl (by kernel_rfl) (by kernel_rfl) (by kernel_rfl) (by kernel_rfl) (fun _ _ _ h => h) (Or.inl ⟨by rfl, ?hrk2⟩) (unhide HSW _ D0) ?_
  case hrk2 => (intro w hSw; (try dsimp only at hSw); go_simp) <;> with_reducible rfl
  simp only [Act.put, List.getElem_toArray, List.getElem_cons_zero, List.getElem_cons_succ, List.setIfInBounds_toArray, List.set_cons_zero, List.set_cons_succ]
  refine anyL_take (i := 3) (v := ?vrk3) rfl (by kernel_rfl) (by kernel_rfl) (by kernel_rfl) (by kernel_rfl) (fun _ _ _ h => h) (Or.inl ⟨by rfl, ?hrk3⟩) (unhide HSW _ D0) ?_
  case hrk3 => (intro w hSw; (try dsimp only at hSw); go_simp) <;> with_reducible rfl
  simp only [Act.put, List.getElem_toArray, List.getElem_cons_zero, List.getElem_cons_succ, List.setIfInBounds_toArray, List.set_cons_zero, List.set_cons_succ]
  refine anyL_take (i := 4) (v := ?vrk4) rfl (by kernel_rfl) (by kernel_rfl) (by kernel_rfl) (by kernel_rfl) (fun _ _ _ h => h) (Or.inl ⟨by rfl, ?hrk4⟩) (unhide HSW _ D0) ?_
  case hrk4 => (intro w hSw; (try dsimp only at hSw); go_simp) <;> with_reducible rfl
  simp only [Act.put, List.getElem_toArray, List.getElem_cons_zero, List.getElem_cons_succ, List.setIfInBounds_toArray, List.set_cons_zero, List.set_cons_succ]
  refine anyL_take (i := 5) (v := ?vrk5) rfl (by kernel_rfl) (by kernel_rfl) (by kernel_rfl) (by kernel_rfl) (fun _ _ _ h => h) (Or.inl ⟨by rfl, ?hrk5⟩) (unhide HSW _ D0) ?_
  case hrk5 => (intro w hSw; (try dsimp only at hSw); go_simp) <;> with_reducible rfl
  simp only [Act.put, List.getElem_toArray, List.getElem_cons_zero, List.getElem_cons_succ, List.setIfInBounds_toArray, List.set_cons_zero, List.set_cons_succ]
  refine anyL_take (i := 6) (v := ?vrk6) rfl (by kernel_rfl) (by kernel_rfl) (by kernel_rfl) (by kernel_rfl) (fun _ _ _ h => h) (Or.inl ⟨by rfl, ?hrk6⟩) (unhide HSW _ D0) ?_
  case hrk6 => (intro w hSw; (try dsimp only at hSw); go_simp) <;> with_reducible rfl
  simp only [Act.put, List.getElem_toArray, List.getElem_cons_zero, List.getElem_cons_succ, List.setIfInBounds_toArray, List.set_cons_zero, List.set_cons_succ]
  refine anyL_take (i := 7) (v := ?vrk7) rfl (by kernel_rfl) (by kernel_rfl) (by kernel_rfl) (by kernel_rfl) (fun _ _ _ h => h) (Or.inl ⟨by rfl, ?hrk7⟩) (unhide HSW _ D0) ?_
  case hrk7 => (intro w hSw; (try dsimp only at hSw); go_simp) <;> with_reducible rfl
  simp only [Act.put, List.getElem_toArray, List.getElem_cons_zero, List.getElem_cons_succ, List.setIfInBounds_toArray, List.set_cons_zero, List.set_cons_succ]
  refine anyL_ready (rs := [8]) (by kernel_rfl) (by simp) ?_
  refine AllL.cons rfl (fun K hK => ?_) AllL.nil
  go_simp
  refine (joinO9_at a b va vb _ (unhide HA _ D0) (unhide HB _ D0) (unhide HN) (unhide HW _ D0)).mono ?_
  rintro e y1 ⟨v1, rfl, n1, x1⟩
  have D1 := D0.trans (x1.mono D0.size)
  have hfm := n1.form
  have N1 := hide n1
  have x2 := (Below.refl y1.heap.size y1).alloc (Nat.le_refl _) (.cells #[v1] 121)
  have HR : Hid (IsRo (y1.alloc (.cells #[v1] 121)) y1.heap.size (joinO a b)) := hide ⟨v1, push_get y1 _, NdV.on x2 (unhide N1)⟩
  have D2 := D1.trans (x2.mono D1.size)
  have HD := hide D2
  refine unhide hK _ _ (fun _ => unhide HSW _ D1) ?_
  clear hK K n1 x1 x2 D0
  rcases hfm with rfl | ⟨T1, u1, rfl⟩
  · refine anyL_take (i := 9) (v := ?vrk8) rfl (by kernel_rfl) (by kernel_rfl) (by kernel_rfl) (by kernel_rfl) (fun _ _ _ h => h) (Or.inl ⟨by rfl, ?hrk8⟩) (unhide HSW _ D1) ?_
    case hrk8 => (intro w hSw; (try dsimp only at hSw); go_simp) <;> with_reducible rfl
    simp only [Act.put, List.getElem_toArray, List.getElem_cons_zero, List.getElem_cons_succ, List.setIfInBounds_toArray, List.set_cons_zero, List.set_cons_succ]
    refine anyL_ready (rs := [10]) (by kernel_rfl) (by simp) ?_
    refine AllL.cons rfl (fun K hK => ?_) AllL.nil
    go_simp
    refine unhide hK _ _ (fun _ => unhide HSW _ D2) ?_
    clear hK K
    refine anyL_take (i := 11) (v := ?vrk9) rfl (by kernel_rfl) (by kernel_rfl) (by kernel_rfl) (by kernel_rfl) (fun _ _ _ h => h) (Or.inl ⟨by rfl, ?hrk9⟩) (unhide HSW _ D2) ?_
    case hrk9 => (intro w hSw; (try dsimp only at hSw); go_simp) <;> with_reducible rfl
    simp only [Act.put, List.getElem_toArray, List.getElem_cons_zero, List.getElem_cons_succ, List.setIfInBounds_toArray, List.set_cons_zero, List.set_cons_succ]
    refine anyL_take (i := 12) (v := ?vrk10) rfl (by kernel_rfl) (by kernel_rfl) (by kernel_rfl) (by kernel_rfl) (fun _ _ _ h => h) (Or.inl ⟨by rfl, ?hrk10⟩) (unhide HSW _ D2) ?_
    case hrk10 => (intro w hSw; (try dsimp only at hSw); go_simp) <;> with_reducible rfl
    simp only [Act.put, List.getElem_toArray, List.getElem_cons_zero, List.getElem_cons_succ, List.setIfInBounds_toArray, List.set_cons_zero, List.set_cons_succ]
    refine anyL_done (by kernel_rfl) ?_ _
    go_wp2_with fail
    refine bodyPost_ret (v := .tuple #[.pointer (some ⟨y1.heap.size, 0, none⟩), .int .i64 0]) (by simp [results, Tryz.results23, go_sem]) rfl ⟨_, rfl, unhide HR, unhide HD⟩
  · refine anyL_take (i := 9) (v := ?vrm19) rfl (by kernel_rfl) (by kernel_rfl) (by kernel_rfl) (by kernel_rfl) (fun _ _ _ h => h) (Or.inl ⟨by rfl, ?hrm19⟩) (unhide HSW _ D1) ?_
    case hrm19 => (intro w hSw; (try dsimp only at hSw); go_simp) <;> with_reducible rfl
    simp only [Act.put, List.getElem_toArray, List.getElem_cons_zero, List.getElem_cons_succ, List.setIfInBounds_toArray, List.set_cons_zero, List.set_cons_succ]
    refine anyL_ready (rs := [10]) (by kernel_rfl) (by simp) ?_
    refine AllL.cons rfl (fun K hK => ?_) AllL.nil
    go_simp
    refine unhide hK _ _ (fun _ => unhide HSW _ D2) ?_
    clear hK K
    refine anyL_take (i := 11) (v := ?vrm20) rfl (by kernel_rfl) (by kernel_rfl) (by kernel_rfl) (by kernel_rfl) (fun _ _ _ h => h) (Or.inl ⟨by rfl, ?hrm20⟩) (unhide HSW _ D2) ?_
    case hrm20 => (intro w hSw; (try dsimp only at hSw); go_simp) <;> with_reducible rfl
    simp only [Act.put, List.getElem_toArray, List.getElem_cons_zero, List.getElem_cons_succ, List.setIfInBounds_toArray, List.set_cons_zero, List.set_cons_succ]
    refine anyL_take (i := 12) (v := ?vrm21) rfl (by kernel_rfl) (by kernel_rfl) (by kernel_rfl) (by kernel_rfl) (fun _ _ _ h => h) (Or.inl ⟨by rfl, ?hrm21⟩) (unhide HSW _ D2) ?_
    case hrm21 => (intro w hSw; (try dsimp only at hSw); go_simp) <;> with_reducible rfl
    simp only [Act.put, List.getElem_toArray, List.getElem_cons_zero, List.getElem_cons_succ, List.setIfInBounds_toArray, List.set_cons_zero, List.set_cons_succ]
    refine anyL_done (by kernel_rfl) ?_ _
    go_wp2_with fail
    refine bodyPost_ret (v := .tuple #[.pointer (some ⟨y1.heap.size, 0, none⟩), .int .i64 0]) (by simp [results, Tryz.results23, go_sem]) rfl ⟨_, rfl, unhide HR, unhide HD⟩
end
section
attribute [local go_sem] Oper.semAt_some
end
section
theorem frozen_block {A B : World} {g i : Nat} (h : B.heap[g]? = A.heap[g]?) : B.frozen? ⟨g, i, none⟩ = A.frozen? ⟨g, i, none⟩ := by
  unfold World.frozen?
  simp only [h]
theorem toBytesC (W : World) (l : List Int) (hl : ∀ x ∈ l, 0 ≤ x ∧ x ≤ 255) (hn : l.length ≤ 140737488351232) :
    ∃ c W', (convert 9 30 (.string (strOfNums l))).run Tryz.prog W = .ok (.slice (some ⟨W.heap.size, 0, none⟩) l.length c) W' ∧ IsN W' (some ⟨W.heap.size, 0, none⟩) c l ∧ Below W.heap.size W W' ∧ ∀ i, i < l.length → W'.frozen? ⟨W.heap.size, i, none⟩ = false := by
  obtain ⟨c, W', h1, h2, h3, _⟩ := toBytes W l hl hn
  refine ⟨c, W', h1, h2, h3, fun i hi => ?_⟩
  have := run_bytes_of_string (P := Tryz.prog) W 9 30 5 (strOfNums l) Tryz.underlying9 Tryz.underlying30 Tryz.underlying5
  rw [h1] at this
  simp only [Result.ok.injEq] at this
  obtain ⟨_, rfl⟩ := this
  have hge := grownCap_ge W (strOfNums l).size 0 5
  have hr : i < (bytesRow (strOfNums l) (grownCap W (strOfNums l).size 0 5)).size := by
    have hs := strOfNums_size l
    unfold bytesRow
    simp only [Array.size_append, Array.size_map]
    show i < (strOfNums l).size + _
    omega
  generalize bytesRow (strOfNums l) (grownCap W (strOfNums l).size 0 5) = row at *
  have hb : (W.drew.alloc (.cells row 5 (row.size, row.size + 1))).heap[W.heap.size]? = some (.cells row 5 (row.size, row.size + 1)) := World.alloc_heap_new W.drew _
  unfold World.frozen?
  simp only [hb]
  simp
  omega
theorem BytesLC_at (g : Nat) (l : List Int) (w : World) (h : IsLf w g l) (hl : ∀ x ∈ l, 0 ≤ x ∧ x ≤ 255) (hn : l.length ≤ 140737488351232) :
    Calls Tryz.prog 108 #[.pointer (some ⟨g, 0, none⟩)] w fun y w' => ∃ c, y = .returned (.slice (some ⟨w.heap.size, 0, none⟩) l.length c) ∧ (IsN w' (some ⟨w.heap.size, 0, none⟩) c l ∧ ∀ i, i < l.length → w'.frozen? ⟨w.heap.size, i, none⟩ = false) ∧ Below w.heap.size w w' := by
  have c := h.text
  obtain ⟨c1, w1, r1, k1, x1, z1⟩ := toBytesC w l hl hn
  have R1 := hide r1
  have Z1 := hide z1
  clear z1
  go_enter Tryz.func108, Tryz.ntmps108
  go_wp2_with fail
  go_ret
  exact ⟨_, rfl, ⟨k1, unhide Z1⟩, x1⟩
def Nw (N : Nat) (v : Value) (x : List Int) (W : World) : Prop := ∃ g o c, v = .slice (some ⟨g, o, none⟩) x.length c ∧ (IsB W (some ⟨g, o, none⟩) c x ∧ ∀ i, i < x.length → W.frozen? ⟨g, o + i, none⟩ = false) ∧ N ≤ g ∧ g < W.heap.size
def KN (N : Nat) (q : Nat → Prop) (A B : World) : Prop := Below N A B ∧ ∀ k, q k → k < A.heap.size → B.heap[k]? = A.heap[k]?
theorem KN.trans {N : Nat} {q : Nat → Prop} {A B C : World} (h : KN N q A B) (k : KN N q B C) : KN N q A C := ⟨h.1.trans k.1, fun i hi hl => (k.2 i hi (Nat.lt_of_lt_of_le hl h.1.size)).trans (h.2 i hi hl)⟩
theorem KN.all {N : Nat} {q : Nat → Prop} {A B : World} (h : Below A.heap.size A B) (hN : N ≤ A.heap.size) : KN N q A B := ⟨h.mono hN, fun k _ hl => h.block k hl⟩
theorem KN.setCell {N : Nat} {q : Nat → Prop} (A : World) (p : Addr) (v : Value) (hN : N ≤ p.block) (h : ¬ q p.block) : KN N q A (A.setCell p v) :=
  ⟨(Below.refl N A).setCell (p := p) hN v, fun k hk _ => Below.heap_setCell A p v k (fun e => h (e ▸ hk))⟩
def AbdP (J : List (List Int) → World → Prop) : Prop := ∀ s A B, J s A → Below A.heap.size A B → J s B
def ChP (N : Nat) (A B : World) : Prop := Below N A B ∧ ∀ k, N + 2 ≤ k → k < A.heap.size → B.heap[k]? = A.heap[k]?
def AbdL (N : Nat) (J : List (List Int) → World → Prop) : Prop := ∀ s A B, J s A → ChP N A B → J s B
theorem chp_below {N : Nat} {A B : World} (h : Below A.heap.size A B) (hN : N ≤ A.heap.size) : ChP N A B := ⟨h.mono hN, fun k _ hl => h.block k hl⟩
theorem below_putP {N : Nat} (W : World) (l : Nat) (o : Obj) (h : N ≤ l) : Below N W (W.putObj l o) := ⟨rfl, rfl, rfl, by simp, fun k hk => World.putObj_heap_other (by omega)⟩
theorem chp_put {N : Nat} (A : World) (l : Nat) (o : Obj) (h1 : N ≤ l) (h2 : l < N + 2) : ChP N A (A.putObj l o) := ⟨below_putP A l o h1, fun k hk _ => World.putObj_heap_other (by omega)⟩
theorem round_anyP {m m' : Nat} {P : Program} {l : Nat} {f : FuncId} {tmps : Array Value} {assign body : Code} {w : World} {R : Ending → World → Prop} (h : RoundIn Fence.wide m P l f tmps assign body w R) : RoundIn Fence.wide m' P l f tmps assign body w R :=
  ⟨h.1, fun c cs _ => h.2 c cs (room_wide _)⟩
theorem Nw.same {N : Nat} {v : Value} {x : List Int} {A B : World} (h : Nw N v x A) (hs : A.heap.size ≤ B.heap.size) (hb : ∀ k, N ≤ k → k < A.heap.size → B.heap[k]? = A.heap[k]?) : Nw N v x B := by
  obtain ⟨g, o, c, e, ⟨⟨h1, h2, h3, h4⟩, h5⟩, hN, hl⟩ := h
  refine ⟨g, o, c, e, ⟨⟨h1, h2, ?_, h4⟩, fun i hi => (frozen_block (hb g hN hl)).trans (h5 i hi)⟩, hN, by omega⟩
  rcases h3 with h3 | ⟨g', off, e', hL⟩
  · exact Or.inl h3
  · cases e'
    exact Or.inr ⟨g, o, rfl, fun i hi => ⟨(World.cell?_of_block (hb g hN hl)).trans (hL i hi).1, (hL i hi).2⟩⟩
theorem Nw.on {N : Nat} {v : Value} {x : List Int} {A B : World} (h : Nw N v x A) (hb : Below A.heap.size A B) : Nw N v x B := h.same hb.size (fun k _ hl => hb.block k hl)
def SeqP (P : Program) (g : Nat) (lb : Array Value) (N : Nat) (q : Nat → Prop) (E : List (List Int)) (w : World) : Prop :=
  ∀ (l : Nat) (J Jx : List (List Int) → World → Prop) (W : World), Below w.heap.size w W → AbdP J → AbdP Jx →
    (∀ pre x v W1 m, pre ++ [x] <+: E → J pre W1 → W.heap.size ≤ W1.heap.size → Nw W.heap.size v x W1 → YieldAt Fence.wide m P l #[v] W1 fun e W' =>
      KN N q W1 W' ∧ ((e = .returned (.bool true) ∧ J (pre ++ [x]) W') ∨ (e = .returned (.bool false) ∧ Jx (pre ++ [x]) W'))) →
    J [] W → ∀ m, CallsIn Fence.wide m P g (#[.func (.yield l) #[] #[]] ++ lb) W fun e W' => (∃ v, e = .returned v) ∧ (J E W' ∨ ∃ pre, pre <+: E ∧ Jx pre W')
def ownP (q : Nat → Prop) (N : Nat) : Nat → Prop := fun k => q k ∨ (N ≤ k ∧ k < N + 2)
def postP (N : Nat) (q : Nat → Prop) (I : List (List Int) → World → Prop) (Ix : Code → List (List Int) → World → Prop) (xs : List (List Int)) (W : World) : Exit → Act → World → Prop
  | .normal, _, W' => KN N q W W' ∧ I xs W'
  | .ret, _, W' => KN N q W W' ∧ Ix .ret xs W'
  | .exit id, _, W' => KN N q W W' ∧ Ix (.exit id) xs W'
  | .goto t, _, W' => KN N q W W' ∧ Ix (.goto t) xs W'
  | .panic _, _, _ => False
  | .outgrown, _, _ => False
theorem range_p {P : Program} {n : Nat} {g : Operand} {ps : Array Tmp} {assign body : Code} {Q : Exit → Act → World → Prop} {a : Act} {w : World}
    {gf : Nat} {lb : Array Value} (hg : a.eval g = .func (.func gf) #[] lb) (eg : ∀ args w, (callFunc gf args).run P w = .ok (.enter gf args) w)
    {N : Nat} {q : Nat → Prop} {E : List (List Int)} {w0 : World} (hseq : SeqP P gf lb N q E w0) (hb0 : Below w0.heap.size w0 w) (hN : N ≤ w.heap.size) (hq : ∀ k, q k → k < w.heap.size) (hps : ps.size = 1)
    (I : List (List Int) → World → Prop) (Ix : Code → List (List Int) → World → Prop) (hI : AbdL w.heap.size I) (hIx : ∀ c, AbdL w.heap.size (Ix c)) (h0 : I [] w) (hn : 1 ≤ n)
    (Ax : Value → Act → World → Prop) (hAx : ∀ v a' X l o o', X.heap[l]? = some (.loop o) → Ax v a' X → Ax v a' (X.putObj l (.loop o')))
    (hassign : ∀ (l : Nat) (pre : List (List Int)) (x : List Int) (v : Value) (W : World) (K : Act → World → Prop), pre ++ [x] <+: E → I pre W → w.heap.size + 2 ≤ W.heap.size → Nw (w.heap.size + 2) v x W → (∀ a' W', Below W.heap.size W W' → Ax v a' W' → K a' W') →
      assign.wpIn (Fence.wide.inRound l) (n - 1 - 1) P (Exit.then K (fun _ _ _ => False)) { tmps := (ps.zip #[v]).foldl (fun t (p, v) => t.setIfInBounds p v) a.tmps, defers := [] } W)
    (hbody : ∀ (l : Nat) (pre : List (List Int)) (x : List Int) (v : Value) (a' : Act) (W : World), w.heap.size ≤ l → l < w.heap.size + 2 → (∃ r, W.heap[l]? = some (.loop r)) → pre ++ [x] <+: E → I pre W → Nw (w.heap.size + 2) v x W → Ax v a' W → w.heap.size + 2 ≤ W.heap.size → body.wpIn (Fence.wide.inRound l) (n - 1 - 1) P (postP N (ownP q w.heap.size) I Ix (pre ++ [x]) W) a' W)
    (hdone : ∀ (D : Nat) (W : World), w.heap.size ≤ D → I E W → W.heap[D]? = some (.deferred (some [])) → Q .normal { a with defers := { target := .collected D, args := #[] } :: a.defers } W)
    (hstop : ∀ (D : Nat) (c : Code) (pre : List (List Int)) (W : World), w.heap.size ≤ D → pre <+: E → Ix c pre W → W.heap[D]? = some (.deferred (some [])) → c.wpIn Fence.wide n P Q { a with defers := { target := .collected D, args := #[] } :: a.defers } W) :
    (Code.rangeFunc g ps assign body).wpIn Fence.wide n P Q a w := by
  refine wpIn_rangeFunc fun fn hfn => ?_
  have hro : Fence.wide.round = none := rfl
  rw [hro]
  let rec' : LoopState → Option Code → Loop := fun st pe => { state := st, pending := pe, fn, tmps := a.tmps, params := ps, assign, body, defers := w.heap.size }
  let V := (w.alloc (.deferred (some []))).alloc (.loop (rec' .ready none))
  have hs1 : V.heap.size = w.heap.size + 2 := by simp [V]
  have v1 : V.heap[w.heap.size + 1]? = some (.loop (rec' .ready none)) := by
    have := World.alloc_heap_new (w.alloc (.deferred (some []))) (.loop (rec' .ready none)); rwa [World.size_alloc] at this
  have v2 : V.heap[w.heap.size]? = some (.deferred (some [])) := (Below.heap_alloc _ _ _ (by simp)).trans (World.alloc_heap_new w _)
  have vb : Below w.heap.size w V := ((Below.refl _ w).alloc (Nat.le_refl _) _).alloc (by simp) _
  refine ⟨w.heap.size + 1, [{ target := .collected w.heap.size, args := #[] }], V, { target := .fn (.func gf) lb, args := #[.func (.yield (w.heap.size + 1)) #[] #[]] }, V, gf,
    #[.func (.yield (w.heap.size + 1)) #[] #[]] ++ lb, V, run_enterLoop_outer _ _ _ _ _, ?_, ?_, ?_, fun _ => hn, ?_⟩
  · simp only [resolve, hg]
    simp [go_sem]
  · intro f' _; trivial
  · simp [invoke, go_sem, eg]
  refine (hseq (w.heap.size + 1)
    (fun pre W => I pre W ∧ W.heap[w.heap.size + 1]? = some (.loop (rec' .ready none)) ∧ W.heap[w.heap.size]? = some (.deferred (some [])) ∧ V.heap.size ≤ W.heap.size)
    (fun pre W => ∃ c, Ix c pre W ∧ W.heap[w.heap.size + 1]? = some (.loop (rec' .done (some c))) ∧ W.heap[w.heap.size]? = some (.deferred (some [])) ∧ V.heap.size ≤ W.heap.size)
    V (hb0.trans (vb.mono hb0.size))
    (fun s A B h hb => ⟨hI s A B h.1 (chp_below hb (by omega)), (hb.block _ (by omega)).trans h.2.1, (hb.block _ (by omega)).trans h.2.2.1, Nat.le_trans h.2.2.2 hb.size⟩)
    (fun s A B h hb => by obtain ⟨c, h1, h2, h3, h4⟩ := h; exact ⟨c, hIx c s A B h1 (chp_below hb (by omega)), (hb.block _ (by omega)).trans h2, (hb.block _ (by omega)).trans h3, Nat.le_trans h4 hb.size⟩)
    ?_ ⟨hI _ _ _ h0 (chp_below vb (Nat.le_refl _)), v1, v2, Nat.le_refl _⟩ (n - 1)).mono ?_
  · rintro pre x v W m hpre ⟨hi, hl, hk, hz⟩ hsz hnw
    rw [hs1] at hnw hsz
    have hy := run_yield (P := P) (args := #[v]) hl (by simp [rec', hps])
    refine ⟨fn, _, assign, body, hy, round_anyP (m := n - 1 - 1) (roundIn_of_wpIn trivial (hassign _ pre x v W _ hpre hi (by omega) hnw ?_))⟩
    intro a' U hu hax
    have hU : w.heap.size + 1 < W.heap.size := by omega
    have ul := (hu.block _ hU).trans hl
    have uk := (hu.block w.heap.size (by omega)).trans hk
    have us := hu.size
    have un := hnw.on hu
    refine ⟨_, run_beginRound ul rfl, ?_⟩
    have bl : (U.putObj (w.heap.size + 1) (.loop { rec' .ready none with state := .busy })).heap[w.heap.size + 1]? = some (.loop { rec' .ready none with state := .busy }) := World.putObj_heap_same (by omega)
    have bk : (U.putObj (w.heap.size + 1) (.loop { rec' .ready none with state := .busy })).heap[w.heap.size]? = some (.deferred (some [])) := (World.putObj_heap_other (by omega)).trans uk
    have bn : Nw (w.heap.size + 2) v x (U.putObj (w.heap.size + 1) (.loop { rec' .ready none with state := .busy })) := un.same (by simp) (fun k hk _ => World.putObj_heap_other (by omega))
    refine wpIn_mono (hbody _ pre x v a' _ (by omega) (by omega) ⟨_, bl⟩ hpre (hI _ _ _ (hI _ _ _ hi (chp_below hu (by omega))) (chp_put U _ _ (by omega) (by omega))) bn (hAx v a' U _ _ _ ul hax) (by simp; omega)) ?_
    have fin : ∀ (jump : Option Code) (X : World), KN N (ownP q w.heap.size) (U.putObj (w.heap.size + 1) (.loop { rec' .ready none with state := .busy })) X →
        (Instr.endRound (w.heap.size + 1) jump).run P X = .ok (.bool jump.isNone) (X.putObj (w.heap.size + 1) (.loop (rec' (if jump.isNone then .ready else .done) jump))) ∧
        (X.putObj (w.heap.size + 1) (.loop (rec' (if jump.isNone then .ready else .done) jump))).heap[w.heap.size + 1]? = some (.loop (rec' (if jump.isNone then .ready else .done) jump)) ∧
        (X.putObj (w.heap.size + 1) (.loop (rec' (if jump.isNone then .ready else .done) jump))).heap[w.heap.size]? = some (.deferred (some [])) ∧
        V.heap.size ≤ (X.putObj (w.heap.size + 1) (.loop (rec' (if jump.isNone then .ready else .done) jump))).heap.size ∧
        KN N q W (X.putObj (w.heap.size + 1) (.loop (rec' (if jump.isNone then .ready else .done) jump))) := fun jump X hX => by
      have xs := hX.1.size
      rw [World.putObj_size] at xs
      have xl := (hX.2 (w.heap.size + 1) (.inr ⟨by omega, by omega⟩) (by simp; omega)).trans bl
      have xk := (hX.2 w.heap.size (.inr ⟨Nat.le_refl _, by omega⟩) (by simp; omega)).trans bk
      refine ⟨run_endRound (P := P) jump xl, World.putObj_heap_same (by omega), (World.putObj_heap_other (by omega)).trans xk, by simp; omega, ?_, fun k hk2 hkl => ?_⟩
      · exact ((hu.mono (by omega)).trans ((below_putP U _ _ (by omega)).trans hX.1)).trans (below_putP X _ _ (by omega))
      · have e : k ≠ w.heap.size + 1 := by have := hq k hk2; omega
        rw [World.putObj_heap_other e]
        refine (hX.2 k (.inl hk2) (by simp; omega)).trans ?_
        rw [World.putObj_heap_other e]
        exact hu.block k hkl
    rintro e a3 X hp
    cases e with
    | normal =>
      obtain ⟨hX, hi3⟩ := hp
      obtain ⟨hr, h1, h2, h4, h3⟩ := fin none X hX
      exact ⟨_, _, hr, h3, .inl ⟨rfl, hI _ _ _ hi3 (chp_put _ _ _ (by omega) (by omega)), h1, h2, h4⟩⟩
    | ret =>
      obtain ⟨hX, hi3⟩ := hp
      obtain ⟨hr, h1, h2, h4, h3⟩ := fin (some .ret) X hX
      exact ⟨_, _, hr, h3, .inr ⟨rfl, .ret, hIx _ _ _ _ hi3 (chp_put _ _ _ (by omega) (by omega)), h1, h2, h4⟩⟩
    | exit id =>
      obtain ⟨hX, hi3⟩ := hp
      obtain ⟨hr, h1, h2, h4, h3⟩ := fin (some (.exit id)) X hX
      exact ⟨_, _, hr, h3, .inr ⟨rfl, .exit id, hIx _ _ _ _ hi3 (chp_put _ _ _ (by omega) (by omega)), h1, h2, h4⟩⟩
    | goto t =>
      obtain ⟨hX, hi3⟩ := hp
      obtain ⟨hr, h1, h2, h4, h3⟩ := fin (some (.goto t)) X hX
      exact ⟨_, _, hr, h3, .inr ⟨rfl, .goto t, hIx _ _ _ _ hi3 (chp_put _ _ _ (by omega) (by omega)), h1, h2, h4⟩⟩
    | panic ch => exact hp.elim
    | outgrown => exact hp.elim
  · rintro e X ⟨⟨v, rfl⟩, (⟨hi, hl, hk, _⟩ | ⟨pre, hpre, c, hi, hl, hk, _⟩)⟩
    · exact ⟨none, _, run_endLoop (P := P) hl (by simp [rec']), hdone _ _ (Nat.le_refl _) (hI _ _ _ hi (chp_put _ _ _ (by omega) (by omega))) ((World.putObj_heap_other (by omega)).trans hk)⟩
    · exact ⟨some c, _, run_endLoop (P := P) hl (by simp [rec']), hstop _ c pre _ (Nat.le_refl _) hpre (hIx c _ _ _ hi (chp_put _ _ _ (by omega) (by omega))) ((World.putObj_heap_other (by omega)).trans hk)⟩
def fwdP : Nd → Nat → List (List Int)
  | .tip l, f => if f < l.length then [l.drop f] else []
  | .fork a b, f => (if f < a.txt.length then fwdP a f else []) ++ fwdP b (f - a.txt.length)
def bwdP : Nd → Nat → List (List Int)
  | .tip l, f => if 0 < f then [l.take f] else []
  | .fork a b, f => (if a.txt.length < f then bwdP b (f - a.txt.length) else []) ++ bwdP a (min f a.txt.length)
theorem fwdP_flat : ∀ (t : Nd) (f : Nat), (fwdP t f).flatten = t.txt.drop f
  | .tip l, f => by
    show (if f < l.length then [l.drop f] else []).flatten = l.drop f
    by_cases h : f < l.length
    · rw [if_pos h]; simp
    · rw [if_neg h, List.drop_of_length_le (by omega)]; rfl
  | .fork a b, f => by
    show ((if f < a.txt.length then fwdP a f else []) ++ fwdP b (f - a.txt.length)).flatten = (a.txt ++ b.txt).drop f
    rw [List.flatten_append, fwdP_flat b, List.drop_append]
    by_cases h : f < a.txt.length
    · rw [if_pos h, fwdP_flat a]
    · rw [if_neg h, List.drop_of_length_le (l := a.txt) (by omega)]; rfl
end
section
attribute [local go_sem] Oper.semAt_some taTF taTT taFF taFT
def FwdP (N : Nat) (q : Nat → Prop) (J Jx : List (List Int) → World → Prop) (E s : List (List Int)) (w : World) (e : Ending) (w' : World) : Prop :=
  KN N q w w' ∧ ((e = .returned (.bool true) ∧ J s w') ∨ (e = .returned (.bool false) ∧ ∃ p, p <+: E ∧ Jx p w'))
def YldP (P : Program) (lo M N : Nat) (q : Nat → Prop) (J Jx : List (List Int) → World → Prop) (E : List (List Int)) : Prop :=
  ∀ pre x v W1 m, pre ++ [x] <+: E → J pre W1 → M ≤ W1.heap.size → Nw M v x W1 → YieldAt Fence.wide m P lo #[v] W1 fun e W' =>
      KN N q W1 W' ∧ ((e = .returned (.bool true) ∧ J (pre ++ [x]) W') ∨ (e = .returned (.bool false) ∧ Jx (pre ++ [x]) W'))
theorem lt_cell {W : World} {g o : Nat} {v : Value} (h : W.cell? ⟨g, o, none⟩ = some v) : g < W.heap.size := by
  refine Nat.lt_of_not_le fun h2 => ?_
  simp [World.cell?, Array.getElem?_eq_none h2] at h
theorem fwd_tip (lo M N : Nat) (q : Nat → Prop) (J Jx : List (List Int) → World → Prop) (E : List (List Int)) (hJ : AbdP J) (hY : YldP Tryz.prog lo M N q J Jx E)
    (l : List Int) (v : Value) (f : Nat) (pre : List (List Int)) (w : World) (hI : IsNd w v (.tip l)) (hM : M ≤ w.heap.size) (hN : N ≤ w.heap.size) (hj : J pre w) (hE : pre ++ fwdP (.tip l) f <+: E) :
    Calls Tryz.prog 83 #[v, .int .i64 (f : Int), .func (.yield lo) #[] #[]] w (FwdP N q J Jx E (pre ++ fwdP (.tip l) f) w) := by
  obtain ⟨g, rfl, hf, h1, h4, hb⟩ := hI
  have b0 := (Below.refl w.heap.size w).alloc (Nat.le_refl _) (.cells #[.pointer (some ⟨g, 0, none⟩)] 179)
  have g0 := push_get w (.cells #[.pointer (some ⟨g, 0, none⟩)] 179)
  have c0 : (w.alloc (.cells #[.pointer (some ⟨g, 0, none⟩)] 179)).cell? ⟨w.heap.size, 0, none⟩ = some (.pointer (some ⟨g, 0, none⟩)) := by simp only [World.cell?, g0]; rfl
  have hf1 := hf.on b0
  have hj1 := hJ _ _ _ hj b0
  have HB0 := hide b0
  have HL := hide (LenL_at g l _ hf1)
  unfold tipV
  by_cases c : f < l.length
  · have e1 : fwdP (.tip l) f = [l.drop f] := by unfold fwdP; rw [if_pos c]
    rw [e1] at hE ⊢
    have HBy := hide (BytesLC_at g l _ hf1 hb (by omega))
    have t1 : decide ((f : Int) ≥ (l.length : Int)) = false := decide_eq_false (by omega)
    have t2 : decide ((l.length : Int) ≤ (f : Int)) = false := decide_eq_false (by omega)
    have t3 : ¬ (l.length : Int) ≤ (f : Int) := by omega
    have t4 : ¬ l.length ≤ f := by omega
    clear hf hf1 g0 hj e1 b0
    refine (callsIn_wide (n := 3)).1 ?_
    refine callsIn_of_wp Tryz.func83 rfl trivial ?_ rfl
    simp only [Tryz.ntmps83, List.size_toArray, List.length_cons, List.length_nil, Nat.reduceAdd, Nat.reduceSub, Array.replicate_succ, Array.replicate_zero, List.push_toArray, List.append_toArray, List.nil_append, List.cons_append]
    gi_wp2_with fail
    refine ⟨trivial, ?_⟩
    refine (callsIn_wide.2 (unhide HL)).mono ?_
    rintro y w1 ⟨rfl, rfl⟩
    dsimp only
    gi_wp2_with fail
    refine ⟨trivial, ?_⟩
    refine (callsIn_wide.2 (unhide HBy)).mono ?_
    rintro y w2 ⟨cp, rfl, ⟨hi2, hz2⟩, x2⟩
    have hz2 := hide hz2
    dsimp only
    have hcp := hi2.1.1
    have hN2 : Nw M (.slice (some ⟨(w.alloc (.cells #[.pointer (some ⟨g, 0, none⟩)] 179)).heap.size, f, none⟩) (l.drop f).length (cp - f)) (l.drop f) w2 := by
      have hL := hi2.1.2.2.1
      refine ⟨_, _, _, rfl, ⟨⟨by simp; omega, by have := hi2.1.2.1; simp; omega, Or.inr ⟨_, _, rfl, ?_⟩, fun x hx => hb x (List.mem_of_mem_drop hx)⟩, fun i hi => by have := unhide hz2 (f + i) (by simp at hi; omega); exact this⟩, by simp; omega, ?_⟩
      · intro i hi
        have hi' : f + i < l.length := by simp at hi; omega
        rcases hL with h | ⟨g', o', e', hL⟩
        · rw [h] at h1; simp at h1
        · cases e'
          have := hL (f + i) hi'
          simpa [Nat.add_comm] using this
      · rcases hL with h | ⟨g', o', e', hL⟩
        · rw [h] at h1; simp at h1
        · cases e'
          exact lt_cell (hL 0 h1).1
    have hk2 := KN.all (q := q) (N := N) ((unhide HB0).trans (x2.mono (unhide HB0).size)) hN
    have hj2 := hJ _ _ _ hj1 x2
    have hlen : (l.drop f).length = l.length - f := List.length_drop
    obtain ⟨fn, tmps, assign, body, hy, hR⟩ := hY pre (l.drop f) _ w2 2 hE hj2 (by have := x2.size; have := (unhide HB0).size; omega) hN2
    rw [hlen, World.size_alloc] at hy
    have hcf : f ≤ cp := by omega
    have hcf2 : ¬ cp = f := by omega
    have hfl : f ≤ l.length := by omega
    gi_wp2_with fail
    refine hR.mono ?_
    clear hy hR
    rintro e w3 ⟨hk3, (⟨rfl, hJ3⟩ | ⟨rfl, hJx3⟩)⟩
    · gi_wp2_with fail
      refine bodyPost_ret (v := .bool true) (by simp [results, Tryz.results83, go_sem]) rfl ⟨hk2.trans hk3, .inl ⟨rfl, hJ3⟩⟩
    · gi_wp2_with fail
      refine bodyPost_ret (v := .bool false) (by simp [results, Tryz.results83, go_sem]) rfl ⟨hk2.trans hk3, .inr ⟨rfl, _, hE, hJx3⟩⟩
  · have e1 : fwdP (.tip l) f = [] := by unfold fwdP; rw [if_neg c]
    rw [e1, List.append_nil] at hE ⊢
    have t1 : decide ((f : Int) ≥ (l.length : Int)) = true := decide_eq_true (by omega)
    have t2 : decide ((l.length : Int) ≤ (f : Int)) = true := decide_eq_true (by omega)
    have t3 : (l.length : Int) ≤ (f : Int) := by omega
    have t4 : l.length ≤ f := by omega
    have HK := hide (KN.all (q := q) (N := N) b0 hN)
    have HJ := hide hj1
    clear hf hf1 g0 hj e1 b0 hj1 hE hY hJ hM hN
    go_enter Tryz.func83, Tryz.ntmps83
    go_wp2_with fail
    refine (unhide HL).mono ?_
    rintro y w1 ⟨rfl, rfl⟩
    dsimp only
    go_wp2_with fail
    refine bodyPost_ret (v := .bool true) (by simp [results, Tryz.results83, go_sem]) rfl ⟨unhide HK, .inl ⟨rfl, unhide HJ⟩⟩
theorem forwards9_at (W0 : World) (lo M N : Nat) (q : Nat → Prop) (J Jx : List (List Int) → World → Prop) (E : List (List Int)) (hJ : AbdP J) (hY : YldP Tryz.prog lo M N q J Jx E) (h0N : W0.heap.size ≤ N) :
    ∀ (t : Nd) (v : Value) (f : Nat) (pre : List (List Int)) (w : World), IsNd W0 v t → t.txt.length ≤ 268435456 → f ≤ 268435456 → Below W0.heap.size W0 w → M ≤ w.heap.size → N ≤ w.heap.size → J pre w → pre ++ fwdP t f <+: E →
    Calls Tryz.prog 83 #[v, .int .i64 (f : Int), .func (.yield lo) #[] #[]] w (FwdP N q J Jx E (pre ++ fwdP t f) w) := by
  intro t
  induction t with
  | tip l =>
    intro v f pre w h hm hf hb hM hN hj hE
    exact fwd_tip lo M N q J Jx E hJ hY l v f pre w (IsNd.on hb h) hM hN hj hE
  | fork a b iha ihb =>
    intro v f pre w h hm hf hb hM hN hj hE
    obtain ⟨g, va, vb, rfl, hc, ha, hbb⟩ := h
    have hll : (Nd.fork a b).txt.length = a.txt.length + b.txt.length := by show (a.txt ++ b.txt).length = _; exact List.length_append
    rw [hll] at hm
    have HA := hide fun (X : World) (h : Below W0.heap.size W0 X) => IsNd.on h ha
    have hgf := (Array.getElem?_eq_some_iff.1 hc).1
    have hcw : W0.cell? ⟨g, 0, none⟩ = some va ∧ W0.cell? ⟨g, 1, none⟩ = some vb := by
      have h9 := hc
      unfold forkC at h9
      obtain ⟨c0, c1, _⟩ := cells9 h9
      exact ⟨c0, c1⟩
    have HCW := hide fun (X : World) (h : Below W0.heap.size W0 X) => And.intro ((h.cell (p := ⟨g, 0, none⟩) hgf).trans hcw.1) ((h.cell (p := ⟨g, 1, none⟩) hgf).trans hcw.2)
    have HIA := hide fun (pre : List (List Int)) (w : World) (h1 : Below W0.heap.size W0 w) (h2 : M ≤ w.heap.size) (h3 : N ≤ w.heap.size) (h4 : J pre w) (h5 : pre ++ fwdP a f <+: E) => iha va f pre w ha (by omega) hf h1 h2 h3 h4 h5
    have HIG := hide fun (pre : List (List Int)) (w : World) (h1 : Below W0.heap.size W0 w) (h2 : M ≤ w.heap.size) (h3 : N ≤ w.heap.size) (h4 : J pre w) (h5 : pre ++ fwdP b (f - a.txt.length) <+: E) => ihb vb (f - a.txt.length) pre w hbb (by omega) (by omega) h1 h2 h3 h4 h5
    have HJ := hide hj
    have HJJ := hide hJ
    have HB := hide hb
    have HM := hide (And.intro hM (And.intro hN h0N))
    obtain ⟨d0, d1⟩ := unhide HCW w hb
    by_cases c : f < a.txt.length
    · have e1 : fwdP (.fork a b) f = fwdP a f ++ fwdP b (f - a.txt.length) := by show (if f < a.txt.length then fwdP a f else []) ++ _ = _; rw [if_pos c]
      have hz : f - a.txt.length = 0 := by omega
      rw [hz] at HIG e1
      rw [e1, ← List.append_assoc] at hE ⊢
      have hwm : IntKind.i64.wrap ((f : Int) - (a.txt.length : Int)) = (f : Int) - (a.txt.length : Int) := by rw [IntKind.wrap_i64]; omega
      have HE1 := hide ((List.prefix_append _ _).trans hE)
      have HIB := hide fun (w : World) (h1 : Below W0.heap.size W0 w) (h2 : M ≤ w.heap.size) (h3 : N ≤ w.heap.size) (h4 : J (pre ++ fwdP a f) w) => unhide HIG (pre ++ fwdP a f) w h1 h2 h3 h4 hE
      simp only [Int.natCast_zero] at HIB
      have hmx : max (0 : Int) ((f : Int) - (a.txt.length : Int)) = 0 := by omega
      generalize hS : pre ++ fwdP a f ++ fwdP b 0 = S at *
      clear hS HIG
      have t1 : decide ((f : Int) < (a.txt.length : Int)) = true := decide_eq_true (by omega)
      have t2 : (f : Int) < (a.txt.length : Int) := by omega
      clear hc ha hbb hj hJ hb hM hN hcw iha ihb hgf hE hY h0N hll hm hf e1 c
      unfold forkV
      go_enter Tryz.func83, Tryz.ntmps83
      go_wp2_with fail
      refine (size9_at va a w (unhide HA w (unhide HB))).mono ?_
      rintro y w1 ⟨rfl, x1⟩
      dsimp only
      have B1 := (unhide HB).trans (x1.mono (unhide HB).size)
      have J1 := unhide HJJ _ _ _ (unhide HJ) x1
      have z1 := x1.size
      obtain ⟨d2, d3⟩ := unhide HCW w1 B1
      have HR := hide (unhide HIA pre w1 B1 (by have := unhide HM; omega) (by have := unhide HM; omega) J1 (unhide HE1))
      have HX := hide x1
      have HB1 := hide B1
      have HZ := hide z1
      clear x1 B1 J1 z1 d0 d1
      go_wp2_with fail
      refine (unhide HR).mono ?_
      rintro y w2 ⟨hk2, (⟨rfl, hJ2⟩ | ⟨rfl, p, hp, hJx2⟩)⟩
      · dsimp only
        have B2 := (unhide HB1).trans (hk2.1.mono (unhide HM).2.2)
        have z2 := hk2.1.size
        obtain ⟨d4, d5⟩ := unhide HCW w2 B2
        have HR2 := hide (unhide HIB w2 B2 (by have := unhide HM; have := unhide HZ; omega) (by have := unhide HM; have := unhide HZ; omega) hJ2)
        have HK2 := hide (KN.trans (KN.all (unhide HX) (unhide HM).2.1) hk2)
        clear hk2 hJ2 B2 z2 HR d2 d3
        go_wp2_with fail
        refine (unhide HR2).mono ?_
        rintro y w3 ⟨hk3, h3⟩
        rcases h3 with ⟨rfl, h3⟩ | ⟨rfl, h3⟩
        · dsimp only
          go_wp2_with fail
          refine bodyPost_ret (v := .bool true) (by simp [results, Tryz.results83, go_sem]) rfl ⟨(unhide HK2).trans hk3, .inl ⟨rfl, h3⟩⟩
        · dsimp only
          go_wp2_with fail
          refine bodyPost_ret (v := .bool false) (by simp [results, Tryz.results83, go_sem]) rfl ⟨(unhide HK2).trans hk3, .inr ⟨rfl, h3⟩⟩
      · dsimp only
        have HK2 := hide (KN.trans (KN.all (unhide HX) (unhide HM).2.1) hk2)
        clear HR hk2
        go_wp2_with fail
        refine bodyPost_ret (v := .bool false) (by simp [results, Tryz.results83, go_sem]) rfl ⟨unhide HK2, .inr ⟨rfl, p, hp, hJx2⟩⟩
    · have e1 : fwdP (.fork a b) f = fwdP b (f - a.txt.length) := by show (if f < a.txt.length then fwdP a f else []) ++ _ = _; rw [if_neg c]; rfl
      rw [e1] at hE ⊢
      have HIB := hide fun (w : World) (h1 : Below W0.heap.size W0 w) (h2 : M ≤ w.heap.size) (h3 : N ≤ w.heap.size) (h4 : J pre w) => unhide HIG pre w h1 h2 h3 h4 hE
      generalize hS : pre ++ fwdP b (f - a.txt.length) = S at *
      clear hS HIG
      have hmi : (f : Int) - (a.txt.length : Int) = ((f - a.txt.length : Nat) : Int) := by omega
      have hwm : IntKind.i64.wrap ((f - a.txt.length : Nat) : Int) = ((f - a.txt.length : Nat) : Int) := by rw [IntKind.wrap_i64]; omega
      generalize f - a.txt.length = m at *
      have t1 : decide ((f : Int) < (a.txt.length : Int)) = false := decide_eq_false (by omega)
      have t2 : ¬ (f : Int) < (a.txt.length : Int) := by omega
      clear hc ha hbb hj hJ hb hM hN hcw iha ihb hgf hE hY h0N hll hm hf e1 c HIA
      have hmx : max (0 : Int) (m : Int) = (m : Int) := by omega
      rcases Nat.eq_zero_or_pos m with rfl | hmp
      all_goals try simp only [Int.natCast_zero] at hmi hwm HIB hmx
      all_goals
        unfold forkV
        go_enter Tryz.func83, Tryz.ntmps83
        go_wp2_with fail
        refine (size9_at va a w (unhide HA w (unhide HB))).mono ?_
        rintro y w1 ⟨rfl, x1⟩
        dsimp only
        have B1 := (unhide HB).trans (x1.mono (unhide HB).size)
        have J1 := unhide HJJ _ _ _ (unhide HJ) x1
        have z1 := x1.size
        obtain ⟨d2, d3⟩ := unhide HCW w1 B1
        have HR := hide (unhide HIB w1 B1 (by have := unhide HM; omega) (by have := unhide HM; omega) J1)
        have HX := hide (KN.all (q := q) x1 (unhide HM).2.1)
        clear x1 B1 J1 z1 d0 d1
        go_wp2_with fail
        refine (unhide HR).mono ?_
        rintro y w3 ⟨hk3, h3⟩
        rcases h3 with ⟨rfl, h3⟩ | ⟨rfl, h3⟩
        · dsimp only
          go_wp2_with fail
          refine bodyPost_ret (v := .bool true) (by simp [results, Tryz.results83, go_sem]) rfl ⟨(unhide HX).trans hk3, .inl ⟨rfl, h3⟩⟩
        · dsimp only
          go_wp2_with fail
          refine bodyPost_ret (v := .bool false) (by simp [results, Tryz.results83, go_sem]) rfl ⟨(unhide HX).trans hk3, .inr ⟨rfl, h3⟩⟩
end
section
attribute [local go_sem] Oper.semAt_some taTF taTT taFF taFT
theorem bwd_tip (lo M N : Nat) (q : Nat → Prop) (J Jx : List (List Int) → World → Prop) (E : List (List Int)) (hJ : AbdP J) (hY : YldP Tryz.prog lo M N q J Jx E)
    (l : List Int) (v : Value) (f : Nat) (hfl : f ≤ l.length) (pre : List (List Int)) (w : World) (hI : IsNd w v (.tip l)) (hM : M ≤ w.heap.size) (hN : N ≤ w.heap.size) (hj : J pre w) (hE : pre ++ bwdP (.tip l) f <+: E) :
    Calls Tryz.prog 82 #[v, .int .i64 (f : Int), .func (.yield lo) #[] #[]] w (FwdP N q J Jx E (pre ++ bwdP (.tip l) f) w) := by
  obtain ⟨g, rfl, hf, h1, h4, hb⟩ := hI
  have b0 := (Below.refl w.heap.size w).alloc (Nat.le_refl _) (.cells #[.pointer (some ⟨g, 0, none⟩)] 179)
  have g0 := push_get w (.cells #[.pointer (some ⟨g, 0, none⟩)] 179)
  have c0 : (w.alloc (.cells #[.pointer (some ⟨g, 0, none⟩)] 179)).cell? ⟨w.heap.size, 0, none⟩ = some (.pointer (some ⟨g, 0, none⟩)) := by simp only [World.cell?, g0]; rfl
  have hf1 := hf.on b0
  have hj1 := hJ _ _ _ hj b0
  have HB0 := hide b0
  unfold tipV
  by_cases c : 0 < f
  · have e1 : bwdP (.tip l) f = [l.take f] := by unfold bwdP; rw [if_pos c]
    rw [e1] at hE ⊢
    have HBy := hide (BytesLC_at g l _ hf1 hb (by omega))
    have t1 : decide ((f : Int) ≤ 0) = false := decide_eq_false (by omega)
    have t3 : ¬ (f : Int) ≤ 0 := by omega
    have t4 : ¬ f = 0 := by omega
    clear hf hf1 g0 hj e1 b0
    refine (callsIn_wide (n := 3)).1 ?_
    refine callsIn_of_wp Tryz.func82 rfl trivial ?_ rfl
    simp only [Tryz.ntmps82, List.size_toArray, List.length_cons, List.length_nil, Nat.reduceAdd, Nat.reduceSub, Array.replicate_succ, Array.replicate_zero, List.push_toArray, List.append_toArray, List.nil_append, List.cons_append]
    gi_wp2_with fail
    refine ⟨trivial, ?_⟩
    refine (callsIn_wide.2 (unhide HBy)).mono ?_
    rintro y w2 ⟨cp, rfl, ⟨hi2, hz2⟩, x2⟩
    have hz2 := hide hz2
    dsimp only
    have hcp := hi2.1.1
    have hlen : (l.take f).length = f := by rw [List.length_take]; omega
    have hN2 : Nw M (.slice (some ⟨(w.alloc (.cells #[.pointer (some ⟨g, 0, none⟩)] 179)).heap.size, 0, none⟩) (l.take f).length cp) (l.take f) w2 := by
      have hL := hi2.1.2.2.1
      refine ⟨_, _, _, rfl, ⟨⟨by omega, by have := hi2.1.2.1; omega, Or.inr ⟨_, _, rfl, ?_⟩, fun x hx => hb x (List.mem_of_mem_take hx)⟩, fun i hi => by rw [Nat.zero_add]; exact unhide hz2 i (by rw [hlen] at hi; omega)⟩, by simp; omega, ?_⟩
      · intro i hi
        rw [hlen] at hi
        rcases hL with h | ⟨g', o', e', hL⟩
        · rw [h] at h1; simp at h1
        · cases e'
          have := hL i (by omega)
          rw [show (l.take f).getD i 0 = l.getD i 0 by simp [List.getD_eq_getElem?_getD, hi]]
          exact this
      · rcases hL with h | ⟨g', o', e', hL⟩
        · rw [h] at h1; simp at h1
        · cases e'
          exact lt_cell (hL 0 h1).1
    have hk2 := KN.all (q := q) (N := N) ((unhide HB0).trans (x2.mono (unhide HB0).size)) hN
    have hj2 := hJ _ _ _ hj1 x2
    obtain ⟨fn, tmps, assign, body, hy, hR⟩ := hY pre (l.take f) _ w2 2 hE hj2 (by have := x2.size; have := (unhide HB0).size; omega) hN2
    rw [hlen, World.size_alloc] at hy
    have hcf : f ≤ cp := by omega
    gi_wp2_with fail
    refine hR.mono ?_
    clear hy hR
    rintro e w3 ⟨hk3, (⟨rfl, hJ3⟩ | ⟨rfl, hJx3⟩)⟩
    · gi_wp2_with fail
      refine bodyPost_ret (v := .bool true) (by simp [results, Tryz.results82, go_sem]) rfl ⟨hk2.trans hk3, .inl ⟨rfl, hJ3⟩⟩
    · gi_wp2_with fail
      refine bodyPost_ret (v := .bool false) (by simp [results, Tryz.results82, go_sem]) rfl ⟨hk2.trans hk3, .inr ⟨rfl, _, hE, hJx3⟩⟩
  · obtain rfl : f = 0 := by omega
    have e1 : bwdP (.tip l) 0 = [] := rfl
    rw [e1, List.append_nil] at hE ⊢
    have HK := hide (KN.all (q := q) (N := N) b0 hN)
    have HJ := hide hj1
    clear hf hf1 g0 hj e1 b0 hj1 hE hY hJ hM hN
    rw [Int.natCast_zero]
    go_enter Tryz.func82, Tryz.ntmps82
    go_wp2_with fail
    refine bodyPost_ret (v := .bool true) (by simp [results, Tryz.results82, go_sem]) rfl ⟨unhide HK, .inl ⟨rfl, unhide HJ⟩⟩
theorem backwards9_at (W0 : World) (lo M N : Nat) (q : Nat → Prop) (J Jx : List (List Int) → World → Prop) (E : List (List Int)) (hJ : AbdP J) (hY : YldP Tryz.prog lo M N q J Jx E) (h0N : W0.heap.size ≤ N) :
    ∀ (t : Nd) (v : Value) (f : Nat) (pre : List (List Int)) (w : World), IsNd W0 v t → t.txt.length ≤ 268435456 → f ≤ t.txt.length → Below W0.heap.size W0 w → M ≤ w.heap.size → N ≤ w.heap.size → J pre w → pre ++ bwdP t f <+: E →
    Calls Tryz.prog 82 #[v, .int .i64 (f : Int), .func (.yield lo) #[] #[]] w (FwdP N q J Jx E (pre ++ bwdP t f) w) := by
  intro t
  induction t with
  | tip l =>
    intro v f pre w h hm hf hb hM hN hj hE
    exact bwd_tip lo M N q J Jx E hJ hY l v f hf pre w (IsNd.on hb h) hM hN hj hE
  | fork a b iha ihb =>
    intro v f pre w h hm hf hb hM hN hj hE
    obtain ⟨g, va, vb, rfl, hc, ha, hbb⟩ := h
    have hll : (Nd.fork a b).txt.length = a.txt.length + b.txt.length := by show (a.txt ++ b.txt).length = _; exact List.length_append
    rw [hll] at hm hf
    have HA := hide fun (X : World) (h : Below W0.heap.size W0 X) => IsNd.on h ha
    have hgf := (Array.getElem?_eq_some_iff.1 hc).1
    have hcw : W0.cell? ⟨g, 0, none⟩ = some va ∧ W0.cell? ⟨g, 1, none⟩ = some vb := by
      have h9 := hc
      unfold forkC at h9
      obtain ⟨c0, c1, _⟩ := cells9 h9
      exact ⟨c0, c1⟩
    have HCW := hide fun (X : World) (h : Below W0.heap.size W0 X) => And.intro ((h.cell (p := ⟨g, 0, none⟩) hgf).trans hcw.1) ((h.cell (p := ⟨g, 1, none⟩) hgf).trans hcw.2)
    have HJ := hide hj
    have HJJ := hide hJ
    have HB := hide hb
    have HM := hide (And.intro hM (And.intro hN h0N))
    obtain ⟨d0, d1⟩ := unhide HCW w hb
    by_cases c : a.txt.length < f
    · have e1 : bwdP (.fork a b) f = bwdP b (f - a.txt.length) ++ bwdP a a.txt.length := by show (if a.txt.length < f then bwdP b (f - a.txt.length) else []) ++ bwdP a (min f a.txt.length) = _; rw [if_pos c, Nat.min_eq_right (by omega)]
      rw [e1, ← List.append_assoc] at hE ⊢
      have hE1 := (List.prefix_append _ _).trans hE
      have HIB := hide fun (w : World) (h1 : Below W0.heap.size W0 w) (h2 : M ≤ w.heap.size) (h3 : N ≤ w.heap.size) (h4 : J pre w) => ihb vb (f - a.txt.length) pre w hbb (by omega) (by omega) h1 h2 h3 h4 hE1
      have HIA := hide fun (w : World) (h1 : Below W0.heap.size W0 w) (h2 : M ≤ w.heap.size) (h3 : N ≤ w.heap.size) (h4 : J (pre ++ bwdP b (f - a.txt.length)) w) => iha va a.txt.length (pre ++ bwdP b (f - a.txt.length)) w ha (by omega) (Nat.le_refl _) h1 h2 h3 h4 hE
      generalize pre ++ bwdP b (f - a.txt.length) ++ bwdP a a.txt.length = S at *
      generalize pre ++ bwdP b (f - a.txt.length) = S1 at *
      have t1 : decide ((a.txt.length : Int) < (f : Int)) = true := decide_eq_true (by omega)
      have t2 : (a.txt.length : Int) < (f : Int) := by omega
      have t3 : a.txt.length < f := c
      have t4 : ¬ f < a.txt.length := by omega
      have t5 : ¬ f ≤ a.txt.length := by omega
      have hmi : (f : Int) - (a.txt.length : Int) = ((f - a.txt.length : Nat) : Int) := by omega
      have hwm : IntKind.i64.wrap ((f - a.txt.length : Nat) : Int) = ((f - a.txt.length : Nat) : Int) := by rw [IntKind.wrap_i64]; omega
      have hmx : min (f : Int) (a.txt.length : Int) = (a.txt.length : Int) := by omega
      generalize f - a.txt.length = m at *
      clear hc ha hbb hj hJ hb hM hN hcw iha ihb hgf hE hE1 hY h0N hll hm hf e1 c
      unfold forkV
      go_enter Tryz.func82, Tryz.ntmps82
      go_wp2_with fail
      refine (size9_at va a w (unhide HA w (unhide HB))).mono ?_
      rintro y w1 ⟨rfl, x1⟩
      dsimp only
      have B1 := (unhide HB).trans (x1.mono (unhide HB).size)
      have J1 := unhide HJJ _ _ _ (unhide HJ) x1
      have z1 := x1.size
      obtain ⟨d2, d3⟩ := unhide HCW w1 B1
      have HR := hide (unhide HIB w1 B1 (by have := unhide HM; omega) (by have := unhide HM; omega) J1)
      have HX := hide x1
      have HB1 := hide B1
      have HZ := hide z1
      clear x1 B1 J1 z1 d0 d1
      go_wp2_with fail
      refine (unhide HR).mono ?_
      rintro y w2 ⟨hk2, (⟨rfl, hJ2⟩ | ⟨rfl, p, hp, hJx2⟩)⟩
      · dsimp only
        have B2 := (unhide HB1).trans (hk2.1.mono (unhide HM).2.2)
        have z2 := hk2.1.size
        obtain ⟨d4, d5⟩ := unhide HCW w2 B2
        have HR2 := hide (unhide HIA w2 B2 (by have := unhide HM; have := unhide HZ; omega) (by have := unhide HM; have := unhide HZ; omega) hJ2)
        have HK2 := hide (KN.trans (KN.all (unhide HX) (unhide HM).2.1) hk2)
        clear hk2 hJ2 B2 z2 HR d2 d3
        go_wp2_with fail
        refine (unhide HR2).mono ?_
        rintro y w3 ⟨hk3, h3⟩
        rcases h3 with ⟨rfl, h3⟩ | ⟨rfl, h3⟩
        · dsimp only
          go_wp2_with fail
          refine bodyPost_ret (v := .bool true) (by simp [results, Tryz.results82, go_sem]) rfl ⟨(unhide HK2).trans hk3, .inl ⟨rfl, h3⟩⟩
        · dsimp only
          go_wp2_with fail
          refine bodyPost_ret (v := .bool false) (by simp [results, Tryz.results82, go_sem]) rfl ⟨(unhide HK2).trans hk3, .inr ⟨rfl, h3⟩⟩
      · dsimp only
        have HK2 := hide (KN.trans (KN.all (unhide HX) (unhide HM).2.1) hk2)
        clear HR hk2
        go_wp2_with fail
        refine bodyPost_ret (v := .bool false) (by simp [results, Tryz.results82, go_sem]) rfl ⟨unhide HK2, .inr ⟨rfl, p, hp, hJx2⟩⟩
    · have e1 : bwdP (.fork a b) f = bwdP a f := by show (if a.txt.length < f then bwdP b (f - a.txt.length) else []) ++ bwdP a (min f a.txt.length) = _; rw [if_neg c, Nat.min_eq_left (by omega)]; rfl
      rw [e1] at hE ⊢
      have HIA := hide fun (w : World) (h1 : Below W0.heap.size W0 w) (h2 : M ≤ w.heap.size) (h3 : N ≤ w.heap.size) (h4 : J pre w) => iha va f pre w ha (by omega) (by omega) h1 h2 h3 h4 hE
      generalize pre ++ bwdP a f = S at *
      have t1 : decide ((a.txt.length : Int) < (f : Int)) = false := decide_eq_false (by omega)
      have t2 : ¬ (a.txt.length : Int) < (f : Int) := by omega
      clear hc ha hbb hj hJ hb hM hN hcw iha ihb hgf hE hY h0N hll hm hf e1
      have hmx : min (f : Int) (a.txt.length : Int) = (f : Int) := by omega
      rcases (by omega : f < a.txt.length ∨ f = a.txt.length) with t3 | rfl
      all_goals
        unfold forkV
        go_enter Tryz.func82, Tryz.ntmps82
        go_wp2_with fail
        refine (size9_at va a w (unhide HA w (unhide HB))).mono ?_
        rintro y w1 ⟨rfl, x1⟩
        dsimp only
        have B1 := (unhide HB).trans (x1.mono (unhide HB).size)
        have J1 := unhide HJJ _ _ _ (unhide HJ) x1
        have z1 := x1.size
        obtain ⟨d2, d3⟩ := unhide HCW w1 B1
        have HR := hide (unhide HIA w1 B1 (by have := unhide HM; omega) (by have := unhide HM; omega) J1)
        have HX := hide (KN.all (q := q) x1 (unhide HM).2.1)
        clear x1 B1 J1 z1 d0 d1
        go_wp2_with fail
        refine (unhide HR).mono ?_
        rintro y w3 ⟨hk3, h3⟩
        rcases h3 with ⟨rfl, h3⟩ | ⟨rfl, h3⟩
        · dsimp only
          go_wp2_with fail
          refine bodyPost_ret (v := .bool true) (by simp [results, Tryz.results82, go_sem]) rfl ⟨(unhide HX).trans hk3, .inl ⟨rfl, h3⟩⟩
        · dsimp only
          go_wp2_with fail
          refine bodyPost_ret (v := .bool false) (by simp [results, Tryz.results82, go_sem]) rfl ⟨(unhide HX).trans hk3, .inr ⟨rfl, h3⟩⟩
end
end Go.Proofs.YteamaneompijkaaGreatDoor
