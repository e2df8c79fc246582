/- Layer 7: the contract of lines' Where. -/
import Derived.Test.YteamaneompijkaaGreatDoorSl32

namespace Go.Proofs.YteamaneompijkaaGreatDoor
open Go.ChangeShapes Go.WideShapes Go.ChangeAt Go.RowKit
attribute [local go_sem] Oper.semAt_some

/-- the seven numbers of a place -/
def whC (l : List Int) (p : Nat) : Array Value := #[.int .i64 (p : Int), .int .i64 (szE 2 (l.take p) : Int), .int .i64 (szE 3 (l.take p) : Int), .int .i64 ((lnOf l p).1 : Int), .int .i64 ((p - (lnOf l p).2.1 : Nat) : Int), .int .i64 (szE 2 (cutL l (lnOf l p).2.1 p) : Int), .int .i64 (szE 3 (cutL l (lnOf l p).2.1 p) : Int)]
def wh0 : Array Value := #[.int .i64 0, .int .i64 0, .int .i64 0, .int .i64 0, .int .i64 0, .int .i64 0, .int .i64 0]
def whV (l : List Int) (place : Int) : Value := if place < 0 ∨ (l.length : Int) < place then .tuple #[.agg wh0, .int .i64 2] else .tuple #[.agg (whC l (flr l place.toNat)), .int .i64 0]
theorem resW {X : World} {a : Nat} {t : TypeId} {x0 x1 x2 x3 x4 x5 x6 : Int} {v : Value} (tmps : Array Value) (g4 : tmps[4]?.getD undef = .pointer (some ⟨a, 0, none⟩)) (g5 : tmps[5]?.getD undef = v)
    (h : Cls X a t #[.int .i64 x0, .int .i64 x1, .int .i64 x2, .int .i64 x3, .int .i64 x4, .int .i64 x5, .int .i64 x6]) : (results Tryz.f34 tmps).run Tryz.prog X = .ok (.tuple #[.agg #[.int .i64 x0, .int .i64 x1, .int .i64 x2, .int .i64 x3, .int .i64 x4, .int .i64 x5, .int .i64 x6], v]) X := by
  have p0 : X.cell? ⟨a, 0, none⟩ = some (.int .i64 x0) := (h.cell 0).trans rfl
  have p1 : X.cell? ⟨a, 1, none⟩ = some (.int .i64 x1) := (h.cell 1).trans rfl
  have p2 : X.cell? ⟨a, 2, none⟩ = some (.int .i64 x2) := (h.cell 2).trans rfl
  have p3 : X.cell? ⟨a, 3, none⟩ = some (.int .i64 x3) := (h.cell 3).trans rfl
  have p4 : X.cell? ⟨a, 4, none⟩ = some (.int .i64 x4) := (h.cell 4).trans rfl
  have p5 : X.cell? ⟨a, 5, none⟩ = some (.int .i64 x5) := (h.cell 5).trans rfl
  have p6 : X.cell? ⟨a, 6, none⟩ = some (.int .i64 x6) := (h.cell 6).trans rfl
  simp [results, Tryz.results34, go_sem, g4, g5, p0, p1, p2, p3, p4, p5, p6]
theorem sets7 {N : Nat} (Y : World) (t : TypeId) (x0 x1 x2 x3 x4 x5 x6 : Value) (h : Cls Y N t wh0) :
    Cls (((((((Y.setCell ⟨N, 0, none⟩ x0).setCell ⟨N, 1, none⟩ x1).setCell ⟨N, 2, none⟩ x2).setCell ⟨N, 3, none⟩ x3).setCell ⟨N, 4, none⟩ x4).setCell ⟨N, 5, none⟩ x5).setCell ⟨N, 6, none⟩ x6) N t #[x0, x1, x2, x3, x4, x5, x6] ∧
    Below N Y (((((((Y.setCell ⟨N, 0, none⟩ x0).setCell ⟨N, 1, none⟩ x1).setCell ⟨N, 2, none⟩ x2).setCell ⟨N, 3, none⟩ x3).setCell ⟨N, 4, none⟩ x4).setCell ⟨N, 5, none⟩ x5).setCell ⟨N, 6, none⟩ x6) := by
  have h1 := ((((((h.set 0 x0).set 1 x1).set 2 x2).set 3 x3).set 4 x4).set 5 x5).set 6 x6
  unfold wh0 at h1
  simp only [List.setIfInBounds_toArray, List.set_cons_zero, List.set_cons_succ] at h1
  refine ⟨h1, ?_⟩
  exact ((((((setCell_below (N := N) Y ⟨N, 0, none⟩ x0 (Nat.le_refl _)).trans (setCell_below (N := N) _ ⟨N, 1, none⟩ x1 (Nat.le_refl _))).trans (setCell_below (N := N) _ ⟨N, 2, none⟩ x2 (Nat.le_refl _))).trans (setCell_below (N := N) _ ⟨N, 3, none⟩ x3 (Nat.le_refl _))).trans (setCell_below (N := N) _ ⟨N, 4, none⟩ x4 (Nat.le_refl _))).trans (setCell_below (N := N) _ ⟨N, 5, none⟩ x5 (Nat.le_refl _))).trans (setCell_below (N := N) _ ⟨N, 6, none⟩ x6 (Nat.le_refl _))
theorem cells7 {Y : World} {N : Nat} {t : TypeId} (h : Cls Y N t wh0) : ∀ i, i < 7 → Y.cell? ⟨N, i, none⟩ = some (.int .i64 0) := fun i hi => by
  rw [h.cell i]
  rcases i with _ | _ | _ | _ | _ | _ | _ | i
  all_goals first | rfl | omega

set_option maxRecDepth 100000 in
set_option maxHeartbeats 4000000 in
theorem Where_at (a0 : Option Addr) (cap : Nat) (l : List Int) (place : Int) (w : World) (hB : IsB w a0 cap l) (hT : Tab w) :
    Calls Tryz.prog 34 #[.slice a0 l.length cap, .int .i64 place] w fun y w' => y = .returned (whV l place) ∧ Below w.heap.size w w' := by
  have kS : Cls (w.alloc (.cells #[.int .i64 0, .int .i64 0, .int .i64 0, .int .i64 0, .int .i64 0, .int .i64 0, .int .i64 0] 61)) w.heap.size 61 wh0 := Cls.new w 61 _
  have b0 := (Below.refl w.heap.size w).alloc (Nat.le_refl _) (.cells #[.int .i64 0, .int .i64 0, .int .i64 0, .int .i64 0, .int .i64 0, .int .i64 0, .int .i64 0] 61)
  have hB0 := hB.below b0 (Nat.le_refl _)
  have hT0 := hT.below b0 hT.size
  go_enter Tryz.func34, Tryz.ntmps34
  go_wp2_with fail
  generalize w.alloc (.cells #[.int .i64 0, .int .i64 0, .int .i64 0, .int .i64 0, .int .i64 0, .int .i64 0, .int .i64 0] 61) = w0 at *
  refine (Floor_at a0 cap place l w0 hB0 hT0).mono ?_
  rintro y w2 ⟨rfl, b2⟩
  have b02 := b0.trans (b2.mono b0.size)
  have kS2 := kS.below b2 kS.lt
  have hB2 := hB.below b02 (Nat.le_refl _)
  clear kS hB0 hT0 b2 b0
  by_cases hp : place < 0 ∨ (l.length : Int) < place
  · have HV : Hid (whV l place = .tuple #[.agg #[.int .i64 0, .int .i64 0, .int .i64 0, .int .i64 0, .int .i64 0, .int .i64 0, .int .i64 0], .int .i64 2]) := hide (by unfold whV; rw [if_pos hp]; rfl)
    unfold floorV
    rw [if_pos hp]
    clear hp
    have c0 := cells7 kS2 0 (by decide)
    have f0 := kS2.frozen 0
    have c1 := cells7 kS2 1 (by decide)
    have f1 := kS2.frozen 1
    have c2 := cells7 kS2 2 (by decide)
    have f2 := kS2.frozen 2
    have c3 := cells7 kS2 3 (by decide)
    have f3 := kS2.frozen 3
    have c4 := cells7 kS2 4 (by decide)
    have f4 := kS2.frozen 4
    have c5 := cells7 kS2 5 (by decide)
    have f5 := kS2.frozen 5
    have c6 := cells7 kS2 6 (by decide)
    have f6 := kS2.frozen 6
    go_wp2_with fail
    obtain ⟨s1, s2⟩ := sets7 w2 _ (.int .i64 0) (.int .i64 0) (.int .i64 0) (.int .i64 0) (.int .i64 0) (.int .i64 0) (.int .i64 0) kS2
    refine bodyPost_ret (resW _ rfl rfl s1) rfl ?_
    rw [unhide HV]
    exact ⟨rfl, b02.trans s2⟩
  · have hv : whV l place = .tuple #[.agg (whC l (flr l place.toNat)), .int .i64 0] := by unfold whV; rw [if_neg hp]
    unfold floorV
    rw [if_neg hp]
    have hple : flr l place.toNat ≤ l.length := by have := flr_le l place.toNat; omega
    generalize flr l place.toNat = p at *
    have HV := hide hv
    clear hv hp
    obtain ⟨i, hi⟩ := ho_of hple
    have hlo := hi.lo
    have hcap := hB.1
    have hlen := hB.2.1
    have hpc : p ≤ cap := by omega
    go_wp2_with fail
    refine (holder_at a0 cap l p w2 hB2).mono ?_
    rintro y w3 ⟨rfl, b3⟩
    have b03 := b02.trans (b3.mono b02.size)
    have kS3 := kS2.below b3 kS2.lt
    clear kS2 hB2 b3 b02 hi
    have hw : wrap64 ((p : Int) - ((lnOf l p).2.1 : Int)) = ((p - (lnOf l p).2.1 : Nat) : Int) := by rw [wrap_in _ (by omega) (by omega)]; omega
    have HW4 : Hid (IntKind.i64.wrap ((p : Int) - ((lnOf l p).2.1 : Int)) = ((p - (lnOf l p).2.1 : Nat) : Int)) := hide (by rw [IntKind.wrap_i64]; omega)
    have hLn : (cutL l (lnOf l p).2.1 p).length = p - (lnOf l p).2.1 := by unfold cutL; simp; omega
    have hTn : (l.take p).length = p := by simp; omega
    have sz1 : ∀ (r : Int) (X : World), Below w.heap.size w X → Calls Tryz.prog 67 #[.slice a0 p cap, .int .i64 r] X fun y w' => y = .returned (.int .i64 (szE r (l.take p) : Int)) ∧ Below X.heap.size X w' := fun r X hX => by
      have := size_at _ _ (l.take p) r X ((hB.below hX (Nat.le_refl _)).takeR (n := p)) (hT.below hX hT.size)
      rw [hTn] at this
      exact this
    have sz2 : ∀ (r : Int) (X : World), Below w.heap.size w X → Calls Tryz.prog 67 #[.slice (if cap = (lnOf l p).2.1 then a0 else a0.map (·.add (lnOf l p).2.1)) (p - (lnOf l p).2.1) (cap - (lnOf l p).2.1), .int .i64 r] X fun y w' => y = .returned (.int .i64 (szE r (cutL l (lnOf l p).2.1 p) : Int)) ∧ Below X.heap.size X w' := fun r X hX => by
      have := size_at _ _ (cutL l (lnOf l p).2.1 p) r X (((hB.below hX (Nat.le_refl _)).takeR (n := p)).loR (n := (lnOf l p).2.1)) (hT.below hX hT.size)
      rw [hLn] at this
      exact this
    have hwc : whC l p = #[.int .i64 (p : Int), .int .i64 (szE 2 (l.take p) : Int), .int .i64 (szE 3 (l.take p) : Int), .int .i64 ((lnOf l p).1 : Int), .int .i64 ((p - (lnOf l p).2.1 : Nat) : Int), .int .i64 (szE 2 (cutL l (lnOf l p).2.1 p) : Int), .int .i64 (szE 3 (cutL l (lnOf l p).2.1 p) : Int)] := rfl
    rw [hwc] at HV
    clear hB hT hLn hTn hwc
    have S1 := hide sz1
    have S2 := hide sz2
    clear sz1 sz2
    generalize (lnOf l p).2.1 = st at *
    generalize (lnOf l p).1 = kk at *
    go_wp2_with fail
    by_cases hcx : cap = st
    · have HC := hide (by have := unhide S2; rw [if_pos hcx] at this; exact this)
      have sub0 : cap - st = 0 := by omega
      have sub1 : p - st = 0 := by omega
      have sub2 : p = st := by omega
      rw [sub0] at HC
      subst hcx
      subst sub2
      have z0 : p - p = 0 := Nat.sub_self _
      rw [z0] at HC
      refine regionL (S := fun _ => True) (fun _ => false) (by kernel_rfl) ?_
      have b04 : Below w.heap.size w w3.drew := b03.trans (ch_drew (N := w.heap.size) (n := 0) w3).1
      have kS4 : Cls w3.drew _ _ wh0 := kS3
      have HS : Hid ((fun _ : World => True) w3.drew) := hide trivial
      clear b03 kS3
      generalize w3.drew = v0 at *
      refine anyL_take (i := 0) (v := ?vp0) rfl (by kernel_rfl) (by kernel_rfl) (by kernel_rfl) (by kernel_rfl) (fun _ _ _ h => h) (Or.inl ⟨by rfl, ?hp0⟩) (trivial) ?_
      case hp0 => (intro w hSw; (try dsimp only at hSw); go_simp) <;> with_reducible rfl
      simp only [Act.put, List.getElem_toArray, List.getElem_cons_zero, List.setIfInBounds_toArray, List.set_cons_zero, List.set_cons_succ]
      refine anyL_take (i := 1) (v := ?vp1) rfl (by kernel_rfl) (by kernel_rfl) (by kernel_rfl) (by kernel_rfl) (fun _ _ _ h => h) (Or.inl ⟨by rfl, ?hp1⟩) (trivial) ?_
      case hp1 => (intro w hSw; (try dsimp only at hSw); go_simp) <;> with_reducible rfl
      simp only [Act.put, List.getElem_toArray, List.getElem_cons_zero, List.getElem_cons_succ, List.setIfInBounds_toArray, List.set_cons_zero, List.set_cons_succ]
      refine anyL_take (i := 2) (v := ?vp2) rfl (by kernel_rfl) (by kernel_rfl) (by kernel_rfl) (by kernel_rfl) (fun _ _ _ h => h) (Or.inl ⟨by rfl, ?hp2⟩) (trivial) ?_
      case hp2 => (intro w hSw; (try dsimp only at hSw); go_simp) <;> with_reducible rfl
      simp only [Act.put, List.getElem_toArray, List.getElem_cons_zero, List.getElem_cons_succ, List.setIfInBounds_toArray, List.set_cons_zero, List.set_cons_succ]
      refine anyL_take (i := 3) (v := ?vp3) rfl (by kernel_rfl) (by kernel_rfl) (by kernel_rfl) (by kernel_rfl) (fun _ _ _ h => h) (Or.inl ⟨by rfl, ?hp3⟩) (trivial) ?_
      case hp3 => (intro w hSw; (try dsimp only at hSw); go_simp) <;> with_reducible rfl
      simp only [Act.put, List.getElem_toArray, List.getElem_cons_zero, List.getElem_cons_succ, List.setIfInBounds_toArray, List.set_cons_zero, List.set_cons_succ]
      refine anyL_take (i := 5) (v := ?vp5) rfl (by kernel_rfl) (by kernel_rfl) (by kernel_rfl) (by kernel_rfl) (fun _ _ _ h => h) (Or.inl ⟨by rfl, ?hp5⟩) (trivial) ?_
      case hp5 => (intro w hSw; (try dsimp only at hSw); go_simp) <;> with_reducible rfl
      simp only [Act.put, List.getElem_toArray, List.getElem_cons_zero, List.getElem_cons_succ, List.setIfInBounds_toArray, List.set_cons_zero, List.set_cons_succ]
      refine anyL_take (i := 6) (v := ?vp6) rfl (by kernel_rfl) (by kernel_rfl) (by kernel_rfl) (by kernel_rfl) (fun _ _ _ h => h) (Or.inl ⟨by rfl, ?hp6⟩) (trivial) ?_
      case hp6 => (intro w hSw; (try dsimp only at hSw); go_simp) <;> with_reducible rfl
      simp only [Act.put, List.getElem_toArray, List.getElem_cons_zero, List.getElem_cons_succ, List.setIfInBounds_toArray, List.set_cons_zero, List.set_cons_succ]
      refine anyL_take (i := 7) (v := ?vp7) rfl (by kernel_rfl) (by kernel_rfl) (by kernel_rfl) (by kernel_rfl) (fun _ _ _ h => h) (Or.inl ⟨by rfl, ?hp7⟩) (trivial) ?_
      case hp7 => (intro w hSw; (try dsimp only at hSw); go_simp) <;> with_reducible rfl
      simp only [Act.put, List.getElem_toArray, List.getElem_cons_zero, List.getElem_cons_succ, List.setIfInBounds_toArray, List.set_cons_zero, List.set_cons_succ]
      refine anyL_take (i := 9) (v := ?vp9) rfl (by kernel_rfl) (by kernel_rfl) (by kernel_rfl) (by kernel_rfl) (fun _ _ _ h => h) (Or.inl ⟨by rfl, ?hp9⟩) (trivial) ?_
      case hp9 => (intro w hSw; (try dsimp only at hSw); go_simp) <;> with_reducible rfl
      simp only [Act.put, List.getElem_toArray, List.getElem_cons_zero, List.getElem_cons_succ, List.setIfInBounds_toArray, List.set_cons_zero, List.set_cons_succ]
      refine anyL_take (i := 10) (v := ?vp10) rfl (by kernel_rfl) (by kernel_rfl) (by kernel_rfl) (by kernel_rfl) (fun _ _ _ h => h) (Or.inl ⟨by rfl, ?hp10⟩) (trivial) ?_
      case hp10 => (intro w hSw; (try dsimp only at hSw); go_simp) <;> with_reducible rfl
      simp only [Act.put, List.getElem_toArray, List.getElem_cons_zero, List.getElem_cons_succ, List.setIfInBounds_toArray, List.set_cons_zero, List.set_cons_succ]
      refine anyL_take (i := 11) (v := ?vp11) rfl (by kernel_rfl) (by kernel_rfl) (by kernel_rfl) (by kernel_rfl) (fun _ _ _ h => h) (Or.inl ⟨by rfl, ?hp11⟩) (trivial) ?_
      case hp11 => (intro w hSw; (try dsimp only at hSw); go_simp) <;> with_reducible rfl
      simp only [Act.put, List.getElem_toArray, List.getElem_cons_zero, List.getElem_cons_succ, List.setIfInBounds_toArray, List.set_cons_zero, List.set_cons_succ]
      refine anyL_take (i := 12) (v := ?vp12) rfl (by kernel_rfl) (by kernel_rfl) (by kernel_rfl) (by kernel_rfl) (fun _ _ _ h => h) (Or.inl ⟨by rfl, ?hp12⟩) (trivial) ?_
      case hp12 => (intro w hSw; (try dsimp only at hSw); go_simp) <;> with_reducible rfl
      simp only [Act.put, List.getElem_toArray, List.getElem_cons_zero, List.getElem_cons_succ, List.setIfInBounds_toArray, List.set_cons_zero, List.set_cons_succ]
      refine anyL_take (i := 13) (v := ?vp13) rfl (by kernel_rfl) (by kernel_rfl) (by kernel_rfl) (by kernel_rfl) (fun _ _ _ h => h) (Or.inl ⟨by rfl, ?hp13⟩) (trivial) ?_
      case hp13 => (intro w hSw; (try dsimp only at hSw); go_simp) <;> with_reducible rfl
      simp only [Act.put, List.getElem_toArray, List.getElem_cons_zero, List.getElem_cons_succ, List.setIfInBounds_toArray, List.set_cons_zero, List.set_cons_succ]
      refine anyL_take (i := 14) (v := ?vp14) rfl (by kernel_rfl) (by kernel_rfl) (by kernel_rfl) (by kernel_rfl) (fun _ _ _ h => h) (Or.inl ⟨by rfl, ?hp14⟩) (trivial) ?_
      case hp14 => (intro w hSw; (try dsimp only at hSw); go_simp) <;> with_reducible rfl
      simp only [Act.put, List.getElem_toArray, List.getElem_cons_zero, List.getElem_cons_succ, List.setIfInBounds_toArray, List.set_cons_zero, List.set_cons_succ]
      refine anyL_take (i := 15) (v := ?vp15) rfl (by kernel_rfl) (by kernel_rfl) (by kernel_rfl) (by kernel_rfl) (fun _ _ _ h => h) (Or.inl ⟨by rfl, ?hp15⟩) (trivial) ?_
      case hp15 => (intro w hSw; (try dsimp only at hSw); go_simp) <;> with_reducible rfl
      simp only [Act.put, List.getElem_toArray, List.getElem_cons_zero, List.getElem_cons_succ, List.setIfInBounds_toArray, List.set_cons_zero, List.set_cons_succ]
      refine anyL_take (i := 16) (v := ?vp16) rfl (by kernel_rfl) (by kernel_rfl) (by kernel_rfl) (by kernel_rfl) (fun _ _ _ h => h) (Or.inl ⟨by rfl, ?hp16⟩) (trivial) ?_
      case hp16 => (intro w hSw; (try dsimp only at hSw); go_simp) <;> with_reducible rfl
      simp only [Act.put, List.getElem_toArray, List.getElem_cons_zero, List.getElem_cons_succ, List.setIfInBounds_toArray, List.set_cons_zero, List.set_cons_succ]
      refine anyL_take (i := 18) (v := ?vp18) rfl (by kernel_rfl) (by kernel_rfl) (by kernel_rfl) (by kernel_rfl) (fun _ _ _ h => h) (Or.inl ⟨by rfl, ?hp18⟩) (trivial) ?_
      case hp18 => (intro w hSw; (try dsimp only at hSw); go_simp) <;> with_reducible rfl
      simp only [Act.put, List.getElem_toArray, List.getElem_cons_zero, List.getElem_cons_succ, List.setIfInBounds_toArray, List.set_cons_zero, List.set_cons_succ]
      refine anyL_take (i := 19) (v := ?vp19) rfl (by kernel_rfl) (by kernel_rfl) (by kernel_rfl) (by kernel_rfl) (fun _ _ _ h => h) (Or.inl ⟨by rfl, ?hp19⟩) (trivial) ?_
      case hp19 => (intro w hSw; (try dsimp only at hSw); go_simp) <;> with_reducible rfl
      simp only [Act.put, List.getElem_toArray, List.getElem_cons_zero, List.getElem_cons_succ, List.setIfInBounds_toArray, List.set_cons_zero, List.set_cons_succ]
      refine anyL_take (i := 20) (v := ?vp20) rfl (by kernel_rfl) (by kernel_rfl) (by kernel_rfl) (by kernel_rfl) (fun _ _ _ h => h) (Or.inl ⟨by rfl, ?hp20⟩) (trivial) ?_
      case hp20 => (intro w hSw; (try dsimp only at hSw); go_simp) <;> with_reducible rfl
      simp only [Act.put, List.getElem_toArray, List.getElem_cons_zero, List.getElem_cons_succ, List.setIfInBounds_toArray, List.set_cons_zero, List.set_cons_succ]
      refine anyL_take (i := 21) (v := ?vp21) rfl (by kernel_rfl) (by kernel_rfl) (by kernel_rfl) (by kernel_rfl) (fun _ _ _ h => h) (Or.inl ⟨by rfl, ?hp21⟩) (trivial) ?_
      case hp21 => (intro w hSw; (try dsimp only at hSw); go_simp) <;> with_reducible rfl
      simp only [Act.put, List.getElem_toArray, List.getElem_cons_zero, List.getElem_cons_succ, List.setIfInBounds_toArray, List.set_cons_zero, List.set_cons_succ]
      refine anyL_ready (rs := [4]) (by kernel_rfl) (by simp) ?_
      refine AllL.cons rfl (fun K hK => ?_) AllL.nil
      go_simp
      refine (unhide S1 2 _ b04).mono ?_
      rintro y v1 ⟨rfl, bx⟩
      have bb0 := b04.trans (bx.mono b04.size)
      have kk0 := kS4.below bx kS4.lt
      refine unhide hK _ _ (fun _ => trivial) ?_
      clear hK K bx b04 kS4
      refine anyL_ready (rs := [8]) (by kernel_rfl) (by simp) ?_
      refine AllL.cons rfl (fun K hK => ?_) AllL.nil
      go_simp
      refine (unhide S1 3 _ bb0).mono ?_
      rintro y v2 ⟨rfl, bx⟩
      have bb1 := bb0.trans (bx.mono bb0.size)
      have kk1 := kk0.below bx kk0.lt
      refine unhide hK _ _ (fun _ => trivial) ?_
      clear hK K bx bb0 kk0
      refine anyL_ready (rs := [17]) (by kernel_rfl) (by simp) ?_
      refine AllL.cons rfl (fun K hK => ?_) AllL.nil
      go_simp
      refine (unhide HC 2 _ bb1).mono ?_
      rintro y v3 ⟨rfl, bx⟩
      have bb2 := bb1.trans (bx.mono bb1.size)
      have kk2 := kk1.below bx kk1.lt
      refine unhide hK _ _ (fun _ => trivial) ?_
      clear hK K bx bb1 kk1
      refine anyL_ready (rs := [22]) (by kernel_rfl) (by simp) ?_
      refine AllL.cons rfl (fun K hK => ?_) AllL.nil
      go_simp
      refine (unhide HC 3 _ bb2).mono ?_
      rintro y v4 ⟨rfl, bx⟩
      have bb3 := bb2.trans (bx.mono bb2.size)
      have kk3 := kk2.below bx kk2.lt
      refine unhide hK _ _ (fun _ => trivial) ?_
      clear hK K bx bb2 kk2
      refine anyL_take (i := 23) (v := ?vp23) rfl (by kernel_rfl) (by kernel_rfl) (by kernel_rfl) (by kernel_rfl) (fun _ _ _ h => h) (Or.inl ⟨by rfl, ?hp23⟩) (trivial) ?_
      case hp23 => (intro w hSw; (try dsimp only at hSw); go_simp) <;> with_reducible rfl
      simp only [Act.put, List.getElem_toArray, List.getElem_cons_zero, List.getElem_cons_succ, List.setIfInBounds_toArray, List.set_cons_zero, List.set_cons_succ]
      have c0 := cells7 kk3 0 (by decide)
      have f0 := kk3.frozen 0
      have c1 := cells7 kk3 1 (by decide)
      have f1 := kk3.frozen 1
      have c2 := cells7 kk3 2 (by decide)
      have f2 := kk3.frozen 2
      have c3 := cells7 kk3 3 (by decide)
      have f3 := kk3.frozen 3
      have c4 := cells7 kk3 4 (by decide)
      have f4 := kk3.frozen 4
      have c5 := cells7 kk3 5 (by decide)
      have f5 := kk3.frozen 5
      have c6 := cells7 kk3 6 (by decide)
      have f6 := kk3.frozen 6
      refine anyL_ready (rs := [24]) (by kernel_rfl) (by simp) ?_
      refine AllL.cons rfl (fun K hK => ?_) AllL.nil
      go_simp
      refine unhide hK _ _ (fun _ => trivial) ?_
      clear hK K
      obtain ⟨s1, s2⟩ := sets7 v4 _ (.int .i64 (p : Int)) (.int .i64 (szE 2 (l.take p) : Int)) (.int .i64 (szE 3 (l.take p) : Int)) (.int .i64 (kk : Int)) (.int .i64 ((p - p : Nat) : Int)) (.int .i64 (szE 2 (cutL l p p) : Int)) (.int .i64 (szE 3 (cutL l p p) : Int)) kk3
      rw [show IntKind.i64.wrap 0 = ((p - p : Nat) : Int) by rw [Nat.sub_self]; decide]
      generalize (((((((v4.setCell ⟨w.heap.size, 0, none⟩ (.int .i64 (p : Int))).setCell ⟨w.heap.size, 1, none⟩ (.int .i64 (szE 2 (l.take p) : Int))).setCell ⟨w.heap.size, 2, none⟩ (.int .i64 (szE 3 (l.take p) : Int))).setCell ⟨w.heap.size, 3, none⟩ (.int .i64 (kk : Int))).setCell ⟨w.heap.size, 4, none⟩ (.int .i64 ((p - p : Nat) : Int))).setCell ⟨w.heap.size, 5, none⟩ (.int .i64 (szE 2 (cutL l p p) : Int))).setCell ⟨w.heap.size, 6, none⟩ (.int .i64 (szE 3 (cutL l p p) : Int))) = wZ at *
      refine anyL_take (i := 25) (v := ?vp25) rfl (by kernel_rfl) (by kernel_rfl) (by kernel_rfl) (by kernel_rfl) (fun _ _ _ h => h) (Or.inl ⟨by rfl, ?hp25⟩) (trivial) ?_
      case hp25 => (intro w hSw; (try dsimp only at hSw); go_simp) <;> with_reducible rfl
      simp only [Act.put, List.getElem_toArray, List.getElem_cons_zero, List.getElem_cons_succ, List.setIfInBounds_toArray, List.set_cons_zero, List.set_cons_succ]
      refine anyL_done (by kernel_rfl) ?_ _
      clear c0 f0 c1 f1 c2 f2 c3 f3 c4 f4 c5 f5 c6 f6
      go_wp2_with fail
      refine bodyPost_ret (resW _ rfl rfl s1) rfl ?_
      rw [unhide HV]
      exact ⟨rfl, bb3.trans s2⟩
    · have HC := hide (by have := unhide S2; rw [if_neg hcx] at this; exact this)
      refine regionL (S := fun _ => True) (fun _ => false) (by kernel_rfl) ?_
      have b04 : Below w.heap.size w w3.drew := b03.trans (ch_drew (N := w.heap.size) (n := 0) w3).1
      have kS4 : Cls w3.drew _ _ wh0 := kS3
      have HS : Hid ((fun _ : World => True) w3.drew) := hide trivial
      clear b03 kS3
      generalize w3.drew = v0 at *
      refine anyL_take (i := 0) (v := ?vn0) rfl (by kernel_rfl) (by kernel_rfl) (by kernel_rfl) (by kernel_rfl) (fun _ _ _ h => h) (Or.inl ⟨by rfl, ?hn0⟩) (trivial) ?_
      case hn0 => (intro w hSw; (try dsimp only at hSw); go_simp) <;> with_reducible rfl
      simp only [Act.put, List.getElem_toArray, List.getElem_cons_zero, List.setIfInBounds_toArray, List.set_cons_zero, List.set_cons_succ]
      refine anyL_take (i := 1) (v := ?vn1) rfl (by kernel_rfl) (by kernel_rfl) (by kernel_rfl) (by kernel_rfl) (fun _ _ _ h => h) (Or.inl ⟨by rfl, ?hn1⟩) (trivial) ?_
      case hn1 => (intro w hSw; (try dsimp only at hSw); go_simp) <;> with_reducible rfl
      simp only [Act.put, List.getElem_toArray, List.getElem_cons_zero, List.getElem_cons_succ, List.setIfInBounds_toArray, List.set_cons_zero, List.set_cons_succ]
      refine anyL_take (i := 2) (v := ?vn2) rfl (by kernel_rfl) (by kernel_rfl) (by kernel_rfl) (by kernel_rfl) (fun _ _ _ h => h) (Or.inl ⟨by rfl, ?hn2⟩) (trivial) ?_
      case hn2 => (intro w hSw; (try dsimp only at hSw); go_simp) <;> with_reducible rfl
      simp only [Act.put, List.getElem_toArray, List.getElem_cons_zero, List.getElem_cons_succ, List.setIfInBounds_toArray, List.set_cons_zero, List.set_cons_succ]
      refine anyL_take (i := 3) (v := ?vn3) rfl (by kernel_rfl) (by kernel_rfl) (by kernel_rfl) (by kernel_rfl) (fun _ _ _ h => h) (Or.inl ⟨by rfl, ?hn3⟩) (trivial) ?_
      case hn3 => (intro w hSw; (try dsimp only at hSw); go_simp) <;> with_reducible rfl
      simp only [Act.put, List.getElem_toArray, List.getElem_cons_zero, List.getElem_cons_succ, List.setIfInBounds_toArray, List.set_cons_zero, List.set_cons_succ]
      refine anyL_take (i := 5) (v := ?vn5) rfl (by kernel_rfl) (by kernel_rfl) (by kernel_rfl) (by kernel_rfl) (fun _ _ _ h => h) (Or.inl ⟨by rfl, ?hn5⟩) (trivial) ?_
      case hn5 => (intro w hSw; (try dsimp only at hSw); go_simp) <;> with_reducible rfl
      simp only [Act.put, List.getElem_toArray, List.getElem_cons_zero, List.getElem_cons_succ, List.setIfInBounds_toArray, List.set_cons_zero, List.set_cons_succ]
      refine anyL_take (i := 6) (v := ?vn6) rfl (by kernel_rfl) (by kernel_rfl) (by kernel_rfl) (by kernel_rfl) (fun _ _ _ h => h) (Or.inl ⟨by rfl, ?hn6⟩) (trivial) ?_
      case hn6 => (intro w hSw; (try dsimp only at hSw); go_simp) <;> with_reducible rfl
      simp only [Act.put, List.getElem_toArray, List.getElem_cons_zero, List.getElem_cons_succ, List.setIfInBounds_toArray, List.set_cons_zero, List.set_cons_succ]
      refine anyL_take (i := 7) (v := ?vn7) rfl (by kernel_rfl) (by kernel_rfl) (by kernel_rfl) (by kernel_rfl) (fun _ _ _ h => h) (Or.inl ⟨by rfl, ?hn7⟩) (trivial) ?_
      case hn7 => (intro w hSw; (try dsimp only at hSw); go_simp) <;> with_reducible rfl
      simp only [Act.put, List.getElem_toArray, List.getElem_cons_zero, List.getElem_cons_succ, List.setIfInBounds_toArray, List.set_cons_zero, List.set_cons_succ]
      refine anyL_take (i := 9) (v := ?vn9) rfl (by kernel_rfl) (by kernel_rfl) (by kernel_rfl) (by kernel_rfl) (fun _ _ _ h => h) (Or.inl ⟨by rfl, ?hn9⟩) (trivial) ?_
      case hn9 => (intro w hSw; (try dsimp only at hSw); go_simp) <;> with_reducible rfl
      simp only [Act.put, List.getElem_toArray, List.getElem_cons_zero, List.getElem_cons_succ, List.setIfInBounds_toArray, List.set_cons_zero, List.set_cons_succ]
      refine anyL_take (i := 10) (v := ?vn10) rfl (by kernel_rfl) (by kernel_rfl) (by kernel_rfl) (by kernel_rfl) (fun _ _ _ h => h) (Or.inl ⟨by rfl, ?hn10⟩) (trivial) ?_
      case hn10 => (intro w hSw; (try dsimp only at hSw); go_simp) <;> with_reducible rfl
      simp only [Act.put, List.getElem_toArray, List.getElem_cons_zero, List.getElem_cons_succ, List.setIfInBounds_toArray, List.set_cons_zero, List.set_cons_succ]
      refine anyL_take (i := 11) (v := ?vn11) rfl (by kernel_rfl) (by kernel_rfl) (by kernel_rfl) (by kernel_rfl) (fun _ _ _ h => h) (Or.inl ⟨by rfl, ?hn11⟩) (trivial) ?_
      case hn11 => (intro w hSw; (try dsimp only at hSw); go_simp) <;> with_reducible rfl
      simp only [Act.put, List.getElem_toArray, List.getElem_cons_zero, List.getElem_cons_succ, List.setIfInBounds_toArray, List.set_cons_zero, List.set_cons_succ]
      refine anyL_take (i := 12) (v := ?vn12) rfl (by kernel_rfl) (by kernel_rfl) (by kernel_rfl) (by kernel_rfl) (fun _ _ _ h => h) (Or.inl ⟨by rfl, ?hn12⟩) (trivial) ?_
      case hn12 => (intro w hSw; (try dsimp only at hSw); go_simp) <;> with_reducible rfl
      simp only [Act.put, List.getElem_toArray, List.getElem_cons_zero, List.getElem_cons_succ, List.setIfInBounds_toArray, List.set_cons_zero, List.set_cons_succ]
      refine anyL_take (i := 13) (v := ?vn13) rfl (by kernel_rfl) (by kernel_rfl) (by kernel_rfl) (by kernel_rfl) (fun _ _ _ h => h) (Or.inl ⟨by rfl, ?hn13⟩) (trivial) ?_
      case hn13 => (intro w hSw; (try dsimp only at hSw); go_simp) <;> with_reducible rfl
      simp only [Act.put, List.getElem_toArray, List.getElem_cons_zero, List.getElem_cons_succ, List.setIfInBounds_toArray, List.set_cons_zero, List.set_cons_succ]
      refine anyL_take (i := 14) (v := ?vn14) rfl (by kernel_rfl) (by kernel_rfl) (by kernel_rfl) (by kernel_rfl) (fun _ _ _ h => h) (Or.inl ⟨by rfl, ?hn14⟩) (trivial) ?_
      case hn14 => (intro w hSw; (try dsimp only at hSw); go_simp) <;> with_reducible rfl
      simp only [Act.put, List.getElem_toArray, List.getElem_cons_zero, List.getElem_cons_succ, List.setIfInBounds_toArray, List.set_cons_zero, List.set_cons_succ]
      refine anyL_take (i := 15) (v := ?vn15) rfl (by kernel_rfl) (by kernel_rfl) (by kernel_rfl) (by kernel_rfl) (fun _ _ _ h => h) (Or.inl ⟨by rfl, ?hn15⟩) (trivial) ?_
      case hn15 => (intro w hSw; (try dsimp only at hSw); go_simp) <;> with_reducible rfl
      simp only [Act.put, List.getElem_toArray, List.getElem_cons_zero, List.getElem_cons_succ, List.setIfInBounds_toArray, List.set_cons_zero, List.set_cons_succ]
      refine anyL_take (i := 16) (v := ?vn16) rfl (by kernel_rfl) (by kernel_rfl) (by kernel_rfl) (by kernel_rfl) (fun _ _ _ h => h) (Or.inl ⟨by rfl, ?hn16⟩) (trivial) ?_
      case hn16 => (intro w hSw; (try dsimp only at hSw); go_simp) <;> with_reducible rfl
      simp only [Act.put, List.getElem_toArray, List.getElem_cons_zero, List.getElem_cons_succ, List.setIfInBounds_toArray, List.set_cons_zero, List.set_cons_succ]
      refine anyL_take (i := 18) (v := ?vn18) rfl (by kernel_rfl) (by kernel_rfl) (by kernel_rfl) (by kernel_rfl) (fun _ _ _ h => h) (Or.inl ⟨by rfl, ?hn18⟩) (trivial) ?_
      case hn18 => (intro w hSw; (try dsimp only at hSw); go_simp) <;> with_reducible rfl
      simp only [Act.put, List.getElem_toArray, List.getElem_cons_zero, List.getElem_cons_succ, List.setIfInBounds_toArray, List.set_cons_zero, List.set_cons_succ]
      refine anyL_take (i := 19) (v := ?vn19) rfl (by kernel_rfl) (by kernel_rfl) (by kernel_rfl) (by kernel_rfl) (fun _ _ _ h => h) (Or.inl ⟨by rfl, ?hn19⟩) (trivial) ?_
      case hn19 => (intro w hSw; (try dsimp only at hSw); go_simp) <;> with_reducible rfl
      simp only [Act.put, List.getElem_toArray, List.getElem_cons_zero, List.getElem_cons_succ, List.setIfInBounds_toArray, List.set_cons_zero, List.set_cons_succ]
      refine anyL_take (i := 20) (v := ?vn20) rfl (by kernel_rfl) (by kernel_rfl) (by kernel_rfl) (by kernel_rfl) (fun _ _ _ h => h) (Or.inl ⟨by rfl, ?hn20⟩) (trivial) ?_
      case hn20 => (intro w hSw; (try dsimp only at hSw); go_simp) <;> with_reducible rfl
      simp only [Act.put, List.getElem_toArray, List.getElem_cons_zero, List.getElem_cons_succ, List.setIfInBounds_toArray, List.set_cons_zero, List.set_cons_succ]
      refine anyL_take (i := 21) (v := ?vn21) rfl (by kernel_rfl) (by kernel_rfl) (by kernel_rfl) (by kernel_rfl) (fun _ _ _ h => h) (Or.inl ⟨by rfl, ?hn21⟩) (trivial) ?_
      case hn21 => (intro w hSw; (try dsimp only at hSw); go_simp) <;> with_reducible rfl
      simp only [Act.put, List.getElem_toArray, List.getElem_cons_zero, List.getElem_cons_succ, List.setIfInBounds_toArray, List.set_cons_zero, List.set_cons_succ]
      refine anyL_ready (rs := [4]) (by kernel_rfl) (by simp) ?_
      refine AllL.cons rfl (fun K hK => ?_) AllL.nil
      go_simp
      refine (unhide S1 2 _ b04).mono ?_
      rintro y v1 ⟨rfl, bx⟩
      have bb0 := b04.trans (bx.mono b04.size)
      have kk0 := kS4.below bx kS4.lt
      refine unhide hK _ _ (fun _ => trivial) ?_
      clear hK K bx b04 kS4
      refine anyL_ready (rs := [8]) (by kernel_rfl) (by simp) ?_
      refine AllL.cons rfl (fun K hK => ?_) AllL.nil
      go_simp
      refine (unhide S1 3 _ bb0).mono ?_
      rintro y v2 ⟨rfl, bx⟩
      have bb1 := bb0.trans (bx.mono bb0.size)
      have kk1 := kk0.below bx kk0.lt
      refine unhide hK _ _ (fun _ => trivial) ?_
      clear hK K bx bb0 kk0
      refine anyL_ready (rs := [17]) (by kernel_rfl) (by simp) ?_
      refine AllL.cons rfl (fun K hK => ?_) AllL.nil
      go_simp
      refine (unhide HC 2 _ bb1).mono ?_
      rintro y v3 ⟨rfl, bx⟩
      have bb2 := bb1.trans (bx.mono bb1.size)
      have kk2 := kk1.below bx kk1.lt
      refine unhide hK _ _ (fun _ => trivial) ?_
      clear hK K bx bb1 kk1
      refine anyL_ready (rs := [22]) (by kernel_rfl) (by simp) ?_
      refine AllL.cons rfl (fun K hK => ?_) AllL.nil
      go_simp
      refine (unhide HC 3 _ bb2).mono ?_
      rintro y v4 ⟨rfl, bx⟩
      have bb3 := bb2.trans (bx.mono bb2.size)
      have kk3 := kk2.below bx kk2.lt
      refine unhide hK _ _ (fun _ => trivial) ?_
      clear hK K bx bb2 kk2
      refine anyL_take (i := 23) (v := ?vn23) rfl (by kernel_rfl) (by kernel_rfl) (by kernel_rfl) (by kernel_rfl) (fun _ _ _ h => h) (Or.inl ⟨by rfl, ?hn23⟩) (trivial) ?_
      case hn23 => (intro w hSw; (try dsimp only at hSw); go_simp) <;> with_reducible rfl
      simp only [Act.put, List.getElem_toArray, List.getElem_cons_zero, List.getElem_cons_succ, List.setIfInBounds_toArray, List.set_cons_zero, List.set_cons_succ]
      have c0 := cells7 kk3 0 (by decide)
      have f0 := kk3.frozen 0
      have c1 := cells7 kk3 1 (by decide)
      have f1 := kk3.frozen 1
      have c2 := cells7 kk3 2 (by decide)
      have f2 := kk3.frozen 2
      have c3 := cells7 kk3 3 (by decide)
      have f3 := kk3.frozen 3
      have c4 := cells7 kk3 4 (by decide)
      have f4 := kk3.frozen 4
      have c5 := cells7 kk3 5 (by decide)
      have f5 := kk3.frozen 5
      have c6 := cells7 kk3 6 (by decide)
      have f6 := kk3.frozen 6
      refine anyL_ready (rs := [24]) (by kernel_rfl) (by simp) ?_
      refine AllL.cons rfl (fun K hK => ?_) AllL.nil
      go_simp
      refine unhide hK _ _ (fun _ => trivial) ?_
      clear hK K
      obtain ⟨s1, s2⟩ := sets7 v4 _ (.int .i64 (p : Int)) (.int .i64 (szE 2 (l.take p) : Int)) (.int .i64 (szE 3 (l.take p) : Int)) (.int .i64 (kk : Int)) (.int .i64 ((p - st : Nat) : Int)) (.int .i64 (szE 2 (cutL l st p) : Int)) (.int .i64 (szE 3 (cutL l st p) : Int)) kk3
      rw [unhide HW4]
      generalize (((((((v4.setCell ⟨w.heap.size, 0, none⟩ (.int .i64 (p : Int))).setCell ⟨w.heap.size, 1, none⟩ (.int .i64 (szE 2 (l.take p) : Int))).setCell ⟨w.heap.size, 2, none⟩ (.int .i64 (szE 3 (l.take p) : Int))).setCell ⟨w.heap.size, 3, none⟩ (.int .i64 (kk : Int))).setCell ⟨w.heap.size, 4, none⟩ (.int .i64 ((p - st : Nat) : Int))).setCell ⟨w.heap.size, 5, none⟩ (.int .i64 (szE 2 (cutL l st p) : Int))).setCell ⟨w.heap.size, 6, none⟩ (.int .i64 (szE 3 (cutL l st p) : Int))) = wZ at *
      refine anyL_take (i := 25) (v := ?vn25) rfl (by kernel_rfl) (by kernel_rfl) (by kernel_rfl) (by kernel_rfl) (fun _ _ _ h => h) (Or.inl ⟨by rfl, ?hn25⟩) (trivial) ?_
      case hn25 => (intro w hSw; (try dsimp only at hSw); go_simp) <;> with_reducible rfl
      simp only [Act.put, List.getElem_toArray, List.getElem_cons_zero, List.getElem_cons_succ, List.setIfInBounds_toArray, List.set_cons_zero, List.set_cons_succ]
      refine anyL_done (by kernel_rfl) ?_ _
      clear c0 f0 c1 f1 c2 f2 c3 f3 c4 f4 c5 f5 c6 f6
      go_wp2_with fail
      refine bodyPost_ret (resW _ rfl rfl s1) rfl ?_
      rw [unhide HV]
      exact ⟨rfl, bb3.trans s2⟩

end Go.Proofs.YteamaneompijkaaGreatDoor
