/- The walk of RuleAdds, for arguments under the bound: it answers true wherever the table holds the classes, and changes nothing that was there. -/
import Derived.Test.YtnkeohiibninfabDoorRad
namespace Go.Proofs.YtnkeohiibninfabDoor
open Go.ChangeShapes Go.WideShapes Go.ChangeAt Go.RowKit

/-- what stays while the law goes on -/
structure Lw (w : World) (a0 : Option Addr) (cap : Nat) (l : List Int) (ks : List (Nat × TypeId × Array Value)) (X : World) : Prop where
  b : IsB X a0 cap l
  t : Tab X
  d : Below w.heap.size w X
  k : ∀ y ∈ ks, Cls X y.1 y.2.1 y.2.2
theorem Lw.on {w : World} {a0 : Option Addr} {cap : Nat} {l : List Int} {ks : List (Nat × TypeId × Array Value)} {X Y : World} (h : Lw w a0 cap l ks X) (hb : Below X.heap.size X Y) : Lw w a0 cap l ks Y :=
  ⟨h.b.below hb (Nat.le_refl _), h.t.below hb h.t.size, h.d.trans (hb.mono h.d.size), fun y hy => (h.k y hy).below hb (h.k y hy).lt⟩

theorem szE_le {l : List Int} (hl : ∀ x ∈ l, 0 ≤ x ∧ x ≤ 255) (r : Int) : szE r l ≤ 2 * l.length := by
  unfold szE
  split
  · obtain ⟨h1, _, h3, h4, h5⟩ := st_at hl (List.prefix_refl (spots l 0))
    unfold byE
    split
    · omega
    · split <;> omega
  · exact Nat.zero_le _
/-- what stays, the two parts too -/
structure La (w : World) (a0 : Option Addr) (cap : Nat) (l : List Int) (aL : Option Addr) (cL : Nat) (L : List Int) (aR : Option Addr) (cR : Nat) (R : List Int) (X : World) : Prop where
  lw : Lw w a0 cap l [] X
  il : IsB X aL cL L
  ir : IsB X aR cR R
theorem La.on {w : World} {a0 : Option Addr} {cap : Nat} {l : List Int} {aL : Option Addr} {cL : Nat} {L : List Int} {aR : Option Addr} {cR : Nat} {R : List Int} {X Y : World} (h : La w a0 cap l aL cL L aR cR R X) (hb : Below X.heap.size X Y) : La w a0 cap l aL cL L aR cR R Y :=
  ⟨h.lw.on hb, h.il.below hb (Nat.le_refl _), h.ir.below hb (Nat.le_refl _)⟩

set_option maxRecDepth 100000 in
set_option maxHeartbeats 8000000 in
theorem RuleAdds_any (a0 : Option Addr) (cap : Nat) (l : List Int) (place r : Int) (w : World) (hB : IsB w a0 cap l) (qb : cap ≤ 1048576) (_hp : (Lit.int .i64 place).wf = true) (_hr : (Lit.int .i64 r).wf = true) (hT : Tab w) :
    Calls Tryd.prog 7 #[.slice a0 l.length cap, .int .i64 place, .int .i64 r] w fun e w' => e = .returned (.bool true) ∧ Below w.heap.size w w' := by
  have hl : l.length ≤ 1048576 := Nat.le_trans hB.1 qb
  have hby := hB.2.2.2
  have L1 : Lw w a0 cap l [] w := ⟨hB, hT, Below.refl _ _, fun y hy => by cases hy⟩
  clear hT hB
  go_enter Tryd.func7, Tryd.ntmps7
  go_wp2_with fail
  refine (wakes6_any w L1.t).mono ?_
  rintro e w2 ⟨rfl, x2⟩
  have L2 := L1.on x2
  clear L1 x2
  go_wp2_with fail
  refine (own_at a0 cap l w2 L2.b).mono ?_
  rintro e w3 ⟨a3, c3, rfl, i3, x3⟩
  have L3 := L2.on x3
  clear L2 x3
  go_wp2_with fail
  have hsz := Size_at a3 c3 l r w3 i3 L3.t
  cases hr : isRu r with
  | false =>
    have h1 : szE r l = 0 ∧ szR r = 3 := by unfold szE szR; rw [hr]; exact ⟨rfl, rfl⟩
    rw [h1.1, h1.2] at hsz
    refine hsz.mono ?_
    rintro e w4 ⟨rfl, x4⟩
    have L4 := L3.on x4
    clear L3 x4 i3 hsz
    go_wp2_with fail
    go_ret
    exact ⟨rfl, L4.d⟩
  | true =>
    have h1 : szR r = 0 := by unfold szR; rw [hr]; rfl
    rw [h1] at hsz
    have HAD := hide (fun (h0 : 0 ≤ place) (h1 : place ≤ (szE r l : Int)) => addF hby hr h0 h1)
    have hZl := szE_le hby r
    generalize hZ : szE r l = Z at *
    have HZ := hide hZ
    clear hZ
    refine hsz.mono ?_
    rintro e w4 ⟨rfl, x4⟩
    have L4 := L3.on x4
    clear L3 x4 i3 hsz
    by_cases hp0 : place < 0
    · have q0 : decide (place < 0) = true := by simpa using hp0
      clear hp0
      go_wp2_with fail
      go_ret
      exact ⟨rfl, L4.d⟩
    · have q0 : decide (place < 0) = false := by simpa using hp0
      by_cases hp1 : (Z : Int) < place
      · have q1 : decide (place > (Z : Int)) = true := by simpa using hp1
        clear hp0 hp1
        go_wp2_with fail
        go_ret
        exact ⟨rfl, L4.d⟩
      · have q1 : decide (place > (Z : Int)) = false := by simpa using hp1
        obtain ⟨x, k, F⟩ := unhide HAD (by omega) (by omega)
        obtain ⟨Fk, Fx, Fl, c1, l1, at', c2, l2, sum⟩ := F
        rw [unhide HZ] at c2 l2
        obtain ⟨st1, st2⟩ := stps_app hby Fk Fx
        have hLlen : (l.take x).length = x := by simp; omega
        have hLR : l.take x ++ l.drop x = l := List.take_append_drop x l
        have hLb : (l.take x).length ≤ 1048576 := by rw [hLlen]; omega
        have hRb : (l.drop x).length ≤ 1048576 := by simp; omega
        have hLs : ∀ u, szE u (l.take x) ≤ 2 * 1048576 := fun u => Nat.le_trans (szE_le (fun y hy => hby y (List.mem_of_mem_take hy)) u) (by omega)
        have hRs : ∀ u, szE u (l.drop x) ≤ 2 * 1048576 := fun u => Nat.le_trans (szE_le (fun y hy => hby y (List.mem_of_mem_drop hy)) u) (by omega)
        have hstr := str_appR (l.take x) (l.drop x)
        rw [hLR] at hstr
        generalize l.take x = L at *
        generalize l.drop x = R at *
        have HSUM := hide sum
        have HST1 := hide st1
        have HST2 := hide st2
        have HC1 := hide (And.intro c1 l1)
        have HC2 := hide (And.intro c2 l2)
        have HAT := hide at'
        have HLs := hide hLs
        have HRs := hide hRs
        have HSTR := hide hstr
        clear sum st1 st2 c1 l1 c2 l2 at' Fk Fx Fl hLs hRs hstr hLR HAD hp0 hp1
        go_wp2_with fail
        refine (own_at a0 cap l w4 L4.b).mono ?_
        rintro e w5 ⟨a5, c5, rfl, i5, x5⟩
        have L5 := L4.on x5
        clear L4 x5
        go_wp2_with fail
        refine (Cut_at a5 c5 l r 0 place 1 w5 i5 L5.t).mono ?_
        rw [(unhide HC1).1, (unhide HC1).2]
        rintro e w6 ⟨aL, cL, rfl, iL, x6⟩
        have L6 := L5.on x6
        clear L5 x6 i5
        go_wp2_with fail
        refine (own_at a0 cap l w6 L6.b).mono ?_
        rintro e w7 ⟨a7, c7, rfl, i7, x7⟩
        have L7 := L6.on x7
        have iL7 := iL.below x7 (Nat.le_refl _)
        clear L6 x7 iL
        go_wp2_with fail
        refine (To_at a7 c7 l r place 1 1 w7 i7 L7.t).mono ?_
        rw [unhide HAT]
        generalize toR r place 1 1 (EE l) = eT
        rintro e w8 ⟨rfl, x8⟩
        have L8 := L7.on x8
        have iL8 := iL7.below x8 (Nat.le_refl _)
        clear L7 x8 i7 iL7
        go_wp2_with fail
        refine (own_at a0 cap l w8 L8.b).mono ?_
        rintro e w9 ⟨a9, c9, rfl, i9, x9⟩
        have L9 := L8.on x9
        have iL9 := iL8.below x9 (Nat.le_refl _)
        clear L8 x9 iL8
        go_wp2_with fail
        refine (Cut_at a9 c9 l r place (Z : Int) 1 w9 i9 L9.t).mono ?_
        rw [(unhide HC2).1, (unhide HC2).2]
        rintro e w10 ⟨aR, cR, rfl, iR, x10⟩
        have A10 : La w a0 cap l aL cL L aR cR R w10 := ⟨L9.on x10, iL9.below x10 (Nat.le_refl _), iR⟩
        clear L9 x10 i9 iL9 iR
        have k1 := str_bs w10 _ cL L A10.il.2.2.1
        have k2 := str_bs w10 _ cR R A10.ir.2.2.1
        have k3 := str_bs w10 _ cap l A10.lw.b.2.2.1
        have hst := unhide HSTR
        subst hLlen
        have hsm : ¬ 9223372036854775807 < (strOfNums L).size + (strOfNums R).size := by rw [strOfNums_size, strOfNums_size]; omega
        go_wp2_with fail
        clear k1 k2 k3 hst hsm
        have A0 := A10
        go_loopw [15] (fun i wx => ∃ p : Int, i = .int .i64 p ∧ 1 ≤ p ∧ p ≤ 4 ∧ La w a0 cap l aL cL L aR cR R wx) (fun i _ => 4 - (intOf i).toNat)
        case atStart => exact ⟨1, rfl, by omega, by omega, A0⟩
        case round =>
          obtain ⟨p, rfl, hp1, hp2, A20⟩ := hrel
          clear A0 A10
          by_cases hlt : p ≤ 3
          · have hq : decide (p ≤ 3) = true := by simpa using hlt
            have hru : isRu p = true := decide_eq_true ⟨hp1, hlt⟩
            have hs := unhide HSUM p hru
            have hs1 := unhide HLs p
            have hs2 := unhide HRs p
            have hz0 : szR p = 0 := by unfold szR; rw [hru]; rfl
            have hw : wrap64 (p + 1) = p + 1 := wrap_in _ (by omega) (by omega)
            generalize hz1 : szE p L = z1 at *
            generalize hz2 : szE p R = z2 at *
            have HZ1 := hide hz1
            have HZ2 := hide hz2
            generalize hz3 : szE p l = z3 at *
            have HZ3 := hide hz3
            have hw2 : wrap64 ((z1 : Int) + (z2 : Int)) = (z3 : Int) := (wrap_nat z1 z2 (by omega)).trans (by omega)
            clear hz1 hz2 hz3 hs hru hs1 hs2
            go_wp2_with fail
            refine (own_at aL cL L wr A20.il).mono ?_
            rintro e w21 ⟨a21, c21, rfl, i21, x21⟩
            have A21 := A20.on x21
            clear A20 x21
            go_wp2_with fail
            refine (Size_at a21 c21 L p w21 i21 A21.lw.t).mono ?_
            rw [unhide HZ1, hz0]
            rintro e w22 ⟨rfl, x22⟩
            have A22 := A21.on x22
            clear A21 x22 i21
            go_wp2_with fail
            refine (own_at aR cR R w22 A22.ir).mono ?_
            rintro e w23 ⟨a23, c23, rfl, i23, x23⟩
            have A23 := A22.on x23
            clear A22 x23
            go_wp2_with fail
            refine (Size_at a23 c23 R p w23 i23 A23.lw.t).mono ?_
            rw [unhide HZ2, hz0]
            rintro e w24 ⟨rfl, x24⟩
            have A24 := A23.on x24
            clear A23 x24 i23
            go_wp2_with fail
            refine (own_at a0 cap l w24 A24.lw.b).mono ?_
            rintro e w25 ⟨a25, c25, rfl, i25, x25⟩
            have A25 := A24.on x25
            clear A24 x25
            go_wp2_with fail
            refine (Size_at a25 c25 l p w25 i25 A25.lw.t).mono ?_
            rw [unhide HZ3, hz0]
            rintro e w26 ⟨rfl, x26⟩
            have A26 := A25.on x26
            clear A25 x26 i25
            go_wp2_with fail
            go_roundw
            case rel => exact ⟨p + 1, rfl, by omega, by omega, A26⟩
            case measure => simp [intOf]; omega
          · have hq : decide (p ≤ 3) = false := by simpa using hlt
            clear hlt hp1 hp2
            go_wp2_with fail
            refine (StepsO_at aL cL L wr A20.il hLb).mono ?_
            rintro e w31 ⟨v31, rfl, o31, x31⟩
            have A31 := A20.on x31
            have s31 := x31.size
            go_wp2_with fail
            refine (StepsO_at aR cR R w31 A31.ir hRb).mono ?_
            rintro e w32 ⟨v32, rfl, o32, x32⟩
            have A32 := A31.on x32
            have s32 := x32.size
            have p31 := row_below o31 x32
            have hspl := (st_at hby (List.prefix_refl (spots l 0))).2.2.2.2
            obtain ⟨v33, w33, r33, o33, x33⟩ := app_steps 50 p31 o32 (Nat.le_trans s31 s32) (by rw [unhide HST2]; omega) stps_one
            rw [unhide HST1, unhide HST2] at o33
            obtain ⟨a33, c33, rfl, _, t33⟩ := steps_at o33
            have R33 := hide r33
            have A33 := A20.lw.on ((x31.trans (x32.mono s31)).trans x33)
            clear r33 o33 o31 o32 p31
            go_wp2_with (at_builtin; refine wpList_append_known rfl _ _ 50 50 rfl _ _ rfl rfl _ _ (unhide R33) ?_)
            refine (Steps_at a0 cap l w33 A33.b hl).mono ?_
            rintro e w34 ⟨a34, c34, rfl, _, t34, x34⟩
            have A34 := A33.on x34
            have u33 := t33.below x34 (Nat.le_refl _)
            clear A33 t33 A20 A31 A32 x31 x32 x33 x34
            have hsame := Same_at a33 a34 c33 c34 l (spots l 0) w34 u33 t34 (by omega)
            go_wp2_with fail
            refine hsame.mono ?_
            rintro e w35 ⟨rfl, h35⟩
            have A35 := A34.on (quiet_below h35 _)
            clear hsame A34 h35
            go_wp2_with fail
            go_ret
            exact ⟨rfl, A35.d⟩

end Go.Proofs.YtnkeohiibninfabDoor
