/- Layer 5: DecodeRune, a byte ahead or behind; line ends; Sizes, Of. · Layer 5: Of; mayBe, told, Valid. -/
import Derived.Test.YteamaneompijkaaGreatDoorSa23
import Derived.Test.YteamaneompijkaaGreatDoorSa05
import Derived.Test.YteamaneompijkaaGreatDoorSa10
import Derived.Deep.RegionHeldLaw
import Derived.Deep.CutRange
import Derived.BigQuiet
namespace Go.Proofs.YteamaneompijkaaGreatDoor
open Go.ChangeShapes Go.WideShapes Go.ChangeAt Go.RowKit
set_option maxRecDepth 100000
set_option maxHeartbeats 8000000
section
theorem Decode_at (g off cap : Nat) (l : List Int) (w : World) (hL : Lies w g off l) (hl : ∀ x ∈ l, 0 ≤ x ∧ x ≤ 255) (hne : 0 < l.length) (hW : Wt w) :
    Calls Tryz.prog 151 #[.slice (some ⟨g, off, none⟩) l.length cap] w fun e w' => e = .returned (.tuple #[.int .i32 (first l).1, .int .i64 ((first l).2 : Nat)]) ∧ Below w.heap.size w w' := by
  have h := Any7.utf8_DecodeRune Tryz.lays732 (strOfNums l) g off cap w hW.2.1 (fun j hj => by
    rw [strOfNums_size] at hj
    rw [(hL j hj).1, get_str]
    have := (hL j hj).2
    congr 2
    omega)
  have hs : (strOfNums l).size = l.length := strOfNums_size l
  have hd : (((Lib.decodeGo (strOfNums l)).1 : Int), (Lib.decodeGo (strOfNums l)).2) = first l := by
    match l, hne with
    | a :: r, _ =>
      have := decode_first (a :: r) hl 0 a r rfl
      rw [← this]
      unfold Lib.decodeGo
      rw [if_neg (by rw [strOfNums_size]; simp)]
  rw [hs] at h
  have h1 := congrArg Prod.fst hd
  have h2 := congrArg Prod.snd hd
  simp only at h1 h2
  rw [h1, h2] at h
  exact h
theorem Count1_is (a0 : Option Addr) (cap : Nat) (l : List Int) (g : Nat) (c : Int) (w : World) (hB : IsN w a0 cap l) (hc : 0 ≤ c ∧ c < 256) (hg : IsB w (some ⟨g, 0, none⟩) 1 [c]) :
    Calls Tryz.prog 157 #[.slice a0 l.length cap, .slice (some ⟨g, 0, none⟩) 1 1] w fun e w' => e = .returned (.int .i64 (l.count c : Nat)) ∧ w' = w := by
  obtain ⟨k, rfl⟩ : ∃ k : Nat, c = (k : Int) := ⟨c.toNat, by omega⟩
  exact Count1_at a0 cap l g k w hB (by omega) (by simpa [Addr.add] using IsN.cells hg 0 (by simp))
theorem crlf_le : ∀ l : List Int, crlf l ≤ l.length
  | [] => Nat.le_refl _
  | x :: r => by
    have := crlf_le r
    show (if x = 13 ∧ r.head? = some 10 then 1 else 0) + crlf r ≤ r.length + 1
    split <;> omega
theorem ends_at (a0 : Option Addr) (cap : Nat) (l : List Int) (w : World) (hB : IsN w a0 cap l) (hl : l.length ≤ 268435456) (hW : Wt w) :
    Calls Tryz.prog 150 #[.slice a0 l.length cap] w fun e w' => e = .returned (.int .i64 (endsN l)) ∧ Below w.heap.size w w' := by
  have hc13 : l.count 13 ≤ l.length := List.count_le_length
  have hc10 : l.count 10 ≤ l.length := List.count_le_length
  have hcv := conv_litW w #[.int .u8 13] 1
  go_enter Tryz.func150, Tryz.ntmps150
  go_wp2_with fail
  clear hcv
  have b1 : Below w.heap.size w (w.alloc (.cells #[.int .u8 13] 5 (1, 2))) := (Below.refl _ _).alloc (Nat.le_refl _) _
  have i1 : IsB (w.alloc (.cells #[.int .u8 13] 5 (1, 2))) (some ⟨w.heap.size, 0, none⟩) 1 [13] := lit_isW w [13] (1, 2) (by decide) (by decide)
  generalize (w.alloc (.cells #[.int .u8 13] 5 (1, 2))) = w1 at *
  refine (Count1_is a0 cap l w.heap.size 13 w1 (hB.below b1 (Nat.le_refl _)) (by decide) i1).mono ?_
  rintro e w1' ⟨rfl, rfl⟩
  dsimp only
  have hcv := conv_litW w1' #[.int .u8 10] 1
  go_wp2_with fail
  clear hcv i1
  have b2 : Below w1'.heap.size w1' (w1'.alloc (.cells #[.int .u8 10] 5 (1, 2))) := (Below.refl _ _).alloc (Nat.le_refl _) _
  have i2 : IsB (w1'.alloc (.cells #[.int .u8 10] 5 (1, 2))) (some ⟨w1'.heap.size, 0, none⟩) 1 [10] := lit_isW w1' [10] (1, 2) (by decide) (by decide)
  have z1 := b1.size
  generalize (w1'.alloc (.cells #[.int .u8 10] 5 (1, 2))) = w2 at *
  have bb2 : Below w.heap.size w w2 := b1.trans (b2.mono z1)
  refine (Count1_is a0 cap l w1'.heap.size 10 w2 (hB.below bb2 (Nat.le_refl _)) (by decide) i2).mono ?_
  rintro e w2' ⟨rfl, rfl⟩
  dsimp only
  have hcv := conv_litW w2' #[.int .u8 13, .int .u8 10] 2
  have hcl := crlf_le l
  go_wp2_with fail
  clear hcv i2
  have b3 : Below w2'.heap.size w2' (w2'.alloc (.cells #[.int .u8 13, .int .u8 10] 5 (2, 3))) := (Below.refl _ _).alloc (Nat.le_refl _) _
  have i3 : IsB (w2'.alloc (.cells #[.int .u8 13, .int .u8 10] 5 (2, 3))) (some ⟨w2'.heap.size, 0, none⟩) 2 [13, 10] := lit_isW w2' [13, 10] (2, 3) (by decide) (by decide)
  have z2 := bb2.size
  generalize (w2'.alloc (.cells #[.int .u8 13, .int .u8 10] 5 (2, 3))) = w3 at *
  have bb3 : Below w.heap.size w w3 := bb2.trans (b3.mono z2)
  refine (Count2_at a0 cap l w2'.heap.size w3 (hB.below bb3 (Nat.le_refl _)) (by omega) (hW.below bb3) i3).mono ?_
  rintro e w4 ⟨rfl, q, rfl⟩
  dsimp only
  go_wp2_with fail
  go_ret
  exact ⟨rfl, Below.drewN bb3 q⟩
def rnN (l : List Int) : Nat := (spots l 0).length
def usum (l : List Int) (ps : List Nat) : Int := (ps.map fun p => uni1 (first (l.drop p)).1).sum
def unN (l : List Int) : Int := usum l (spots l 0)
def szL (l : List Int) : Sz := ⟨(l.length : Int), (rnN l : Int), unN l, endsN l⟩
theorem usum_cons (l : List Int) (p : Nat) (ps : List Nat) : usum l (p :: ps) = uni1 (first (l.drop p)).1 + usum l ps := by simp [usum]
theorem uni1_in (r : Int) : 1 ≤ uni1 r ∧ uni1 r ≤ 2 := by unfold uni1; split <;> omega
theorem endsN_in (l : List Int) : 0 ≤ endsN l + (l.length : Int) ∧ endsN l ≤ 2 * (l.length : Int) := by
  have h1 : l.count 13 ≤ l.length := List.count_le_length
  have h2 : l.count 10 ≤ l.length := List.count_le_length
  have h3 := crlf_le l
  unfold endsN
  omega
theorem cells4 {W : World} {g : Nat} {x y z u : Value} {t : TypeId} (h : W.heap[g]? = some (.cells #[x, y, z, u] t (0, 0))) : W.cell? ⟨g, 0, none⟩ = some x ∧ W.cell? ⟨g, 1, none⟩ = some y ∧ W.cell? ⟨g, 2, none⟩ = some z ∧ W.cell? ⟨g, 3, none⟩ = some u ∧ ∀ i, W.frozen? ⟨g, i, none⟩ = false := by
  refine ⟨by simp only [World.cell?, h]; rfl, by simp only [World.cell?, h]; rfl, by simp only [World.cell?, h]; rfl, by simp only [World.cell?, h]; rfl, fun i => by simp only [World.frozen?, h]; simp⟩
theorem box4_1 {W : World} {g : Nat} {x y z u : Value} {t : TypeId} (h : W.heap[g]? = some (.cells #[x, y, z, u] t (0, 0))) (v : Value) : (W.setCell ⟨g, 1, none⟩ v).heap[g]? = some (.cells #[x, v, z, u] t (0, 0)) := heap_setCell_same W g 1 #[x, y, z, u] t v h
theorem box4_2 {W : World} {g : Nat} {x y z u : Value} {t : TypeId} (h : W.heap[g]? = some (.cells #[x, y, z, u] t (0, 0))) (v : Value) : (W.setCell ⟨g, 2, none⟩ v).heap[g]? = some (.cells #[x, y, v, u] t (0, 0)) := heap_setCell_same W g 2 #[x, y, z, u] t v h
theorem box4_all {W : World} {g : Nat} {x y z u : Value} {t : TypeId} (h : W.heap[g]? = some (.cells #[x, y, z, u] t (0, 0))) (a b c d : Value) : ((((W.setCell ⟨g, 0, none⟩ a).setCell ⟨g, 1, none⟩ b).setCell ⟨g, 2, none⟩ c).setCell ⟨g, 3, none⟩ d).heap[g]? = some (.cells #[a, b, c, d] t (0, 0)) := by
  have h0 := heap_setCell_same W g 0 #[x, y, z, u] t a h
  have h1 := heap_setCell_same _ g 1 _ t b h0
  have h2 := heap_setCell_same _ g 2 _ t c h1
  exact heap_setCell_same _ g 3 _ t d h2
def slLen : Value → Nat
  | .slice _ n _ => n
  | _ => 0
theorem IsN.dropN {w : World} {a : Option Addr} {c : Nat} {l : List Int} {n : Nat} (h : IsN w a c l) : IsN w (if c = n then a else a.map (·.add n)) (c - n) (l.drop n) := by
  refine ⟨h.1.dropW, fun e => ?_⟩
  split at e
  · rw [h.2 e]; simp
  · cases a with
    | none => rw [h.2 rfl]; simp
    | some a => cases e
theorem Sizes_at (a0 : Option Addr) (cap : Nat) (l : List Int) (w : World) (hB : IsN w a0 cap l) (hl : l.length ≤ 268435456) (hW : Wt w) :
    Calls Tryz.prog 139 #[.slice a0 l.length cap] w fun e w' => e = .returned (szV (szL l)) ∧ Below w.heap.size w w' := by
  have b0 : Below w.heap.size w (w.alloc (.cells #[.int .i64 0, .int .i64 0, .int .i64 0, .int .i64 0] 45)) := (Below.refl _ _).alloc (Nat.le_refl _) _
  have g0 : (w.alloc (.cells #[.int .i64 0, .int .i64 0, .int .i64 0, .int .i64 0] 45)).heap[w.heap.size]? = some (.cells #[.int .i64 0, .int .i64 0, .int .i64 0, .int .i64 0] 45 (0, 0)) := by show (w.heap.push _)[w.heap.size]? = _; simp
  have z0 : w.heap.size < (w.alloc (.cells #[.int .i64 0, .int .i64 0, .int .i64 0, .int .i64 0] 45)).heap.size := by simp
  go_enter Tryz.func139, Tryz.ntmps139
  go_wp2_with fail
  generalize (w.alloc (.cells #[.int .i64 0, .int .i64 0, .int .i64 0, .int .i64 0] 45)) = w1 at *
  refine (ends_at a0 cap l w1 (hB.below b0 (Nat.le_refl _)) hl (hW.below b0)).mono ?_
  rintro e w2 ⟨rfl, b2⟩
  dsimp only
  have hen := endsN_in l
  obtain ⟨E, hE⟩ : ∃ E, E = endsN l := ⟨_, rfl⟩
  rw [← hE] at hen ⊢
  have HE := hide hE
  clear hE
  go_wp2_with fail
  have z2 := b2.size
  have g3 : (w2.alloc (.cells #[.int .i64 l.length, .int .i64 0, .int .i64 0, .int .i64 E] 45)).heap[w2.heap.size]? = some (.cells #[.int .i64 l.length, .int .i64 0, .int .i64 0, .int .i64 E] 45 (0, 0)) := by show (w2.heap.push _)[w2.heap.size]? = _; simp
  have b3 : Below w1.heap.size w1 (w2.alloc (.cells #[.int .i64 l.length, .int .i64 0, .int .i64 0, .int .i64 E] 45)) := b2.trans (((Below.refl _ _).alloc (Nat.le_refl _) _).mono b2.size)
  have z3 : w2.heap.size < (w2.alloc (.cells #[.int .i64 l.length, .int .i64 0, .int .i64 0, .int .i64 E] 45)).heap.size := by simp
  generalize (w2.alloc (.cells #[.int .i64 l.length, .int .i64 0, .int .i64 0, .int .i64 E] 45)) = w3 at *
  generalize w2.heap.size = gz at *
  have HB := hide hB
  have HW := hide hW
  clear b2 hB hW
  go_loopw [4] (fun v wx => ∃ (k : Nat) (a : Option Addr) (c : Nat) (R U : Int), v = .slice a (l.length - k) c ∧ k ≤ l.length ∧ Hid (IsN w a c (l.drop k)) ∧ (0 ≤ R ∧ R ≤ (k : Int)) ∧ 0 ≤ U ∧ U ≤ 2 * (k : Int) ∧ Hid (R + ((spots l k).length : Int) = (rnN l : Int)) ∧ Hid (U + usum l (spots l k) = unN l) ∧
    Hid (wx.heap[gz]? = some (.cells #[.int .i64 l.length, .int .i64 R, .int .i64 U, .int .i64 E] 45 (0, 0))) ∧ Hid (Below w1.heap.size w1 wx) ∧ gz < wx.heap.size) (fun v _ => slLen v)
  case atStart => exact ⟨0, a0, cap, 0, 0, rfl, Nat.zero_le _, HB, by omega, by omega, by omega, hide (by simp [rnN]), hide (by simp [unN]), hide g3, hide b3, z3⟩
  case round =>
    obtain ⟨k, a, c, R, U, rfl, hk, HI, hRk, hU0, hU1, hR, hU, hx, hb, hzz⟩ := hrel
    have bb : Below w.heap.size w wr := b0.trans ((unhide hb).mono b0.size)
    by_cases hlt : k < l.length
    · have hdl : (l.drop k).length = l.length - k := by simp
      obtain ⟨g, off, rfl, hL, _⟩ := ((unhide HI).1.below bb (Nat.le_refl _)).2.2.1.lies (by omega)
      have hw1 := wid_pos hlt
      have hw2 := wid_len hlt
      have hsp := spots_cons hlt
      have hc := (unhide HI).1.1
      have hby := (unhide HI).1.2.2.2
      have HD := hide (Decode_at g off c (l.drop k) wr hL hby (by omega) ((unhide HW).below bb))
      rw [hdl] at HD hc
      obtain ⟨rn, hrn⟩ : ∃ rn, rn = (first (l.drop k)).1 := ⟨_, rfl⟩
      obtain ⟨wd, hwd⟩ : ∃ wd, wd = wid (l.drop k) := ⟨_, rfl⟩
      have hus := usum_cons l k (spots l (k + wd))
      rw [← hwd] at hsp hw1 hw2
      rw [← hrn] at HD hus
      rw [show (first (l.drop k)).2 = wd from hwd.symm] at HD
      have hun := uni1_in rn
      have HSP := hide hsp
      have HUS := hide hus
      have hpos : decide (((l.length - k : Nat) : Int) > 0) = true := decide_eq_true (by omega)
      have hpos' : decide ((0 : Int) < ((l.length - k : Nat) : Int)) = true := decide_eq_true (by omega)
      clear hsp hus hrn hwd hL hby hdl
      go_wp2_with fail
      refine (unhide HD).mono ?_
      rintro e w5 ⟨rfl, b5⟩
      clear HD
      have z5 := b5.size
      have x5 := (b5.block gz hzz).trans (unhide hx)
      obtain ⟨c50, c51, c52, c53, f5⟩ := cells4 x5
      have f51 := f5 1
      have x6 := box4_1 x5 (.int .i64 (R + 1))
      have b6 : Below w1.heap.size w1 (w5.setCell ⟨gz, 1, none⟩ (.int .i64 (R + 1))) := ((unhide hb).trans (b5.mono (unhide hb).size)).setCell (p := ⟨gz, 1, none⟩) (by show _ ≤ gz; omega) _
      have z6 : (w5.setCell ⟨gz, 1, none⟩ (.int .i64 (R + 1))).heap.size = w5.heap.size := by simp [World.setCell]
      clear f5
      dsimp only
      go_upto_region 6 with fail
      obtain ⟨_, _, c62, _, f6⟩ := cells4 x6
      have f62 := f6 2
      have b6' : Below w1.heap.size w1 (w5.setCell ⟨gz, 1, none⟩ (.int .i64 (R + 1))).drew := Below.drewN b6 1
      have x6' : (w5.setCell ⟨gz, 1, none⟩ (.int .i64 (R + 1))).drew.heap[gz]? = _ := x6
      have z6' : (w5.setCell ⟨gz, 1, none⟩ (.int .i64 (R + 1))).drew.heap.size = w5.heap.size := z6
      have HS0 : Hid ((w5.setCell ⟨gz, 1, none⟩ (.int .i64 (R + 1))).drew.cell? ⟨gz, 2, none⟩ = some (.int .i64 U)) := hide c62
      have f62' : (w5.setCell ⟨gz, 1, none⟩ (.int .i64 (R + 1))).drew.frozen? ⟨gz, 2, none⟩ = false := f62
      clear f6 c50 c51 c52 c53 f51 x5 x6 b6 z6 c62 f62
      refine regionL (S := fun w' => w'.cell? ⟨gz, 2, none⟩ = some (.int .i64 U)) (fun i => i == 6) (by kernel_rfl) ?_
      generalize (w5.setCell ⟨gz, 1, none⟩ (.int .i64 (R + 1))).drew = wd6 at *
      refine anyL_take (i := 0) (v := ?v0) rfl (by kernel_rfl) (by kernel_rfl) (by kernel_rfl) (by kernel_rfl) (fun _ _ _ h => h) (Or.inl ⟨by rfl, ?h0⟩) (unhide HS0) ?_
      case h0 => (intro w hSw; (try dsimp only at hSw); go_simp) <;> with_reducible rfl
      simp only [Act.put, List.getElem_toArray, List.getElem_cons_zero, List.setIfInBounds_toArray, List.set_cons_zero, List.set_cons_succ]
      refine anyL_take (i := 1) (v := ?v1) rfl (by kernel_rfl) (by kernel_rfl) (by kernel_rfl) (by kernel_rfl) (fun _ _ _ h => h) (Or.inl ⟨by rfl, ?h1⟩) (unhide HS0) ?_
      case h1 => (intro w hSw; (try dsimp only at hSw); go_simp) <;> with_reducible rfl
      simp only [Act.put, List.getElem_toArray, List.getElem_cons_zero, List.getElem_cons_succ, List.setIfInBounds_toArray, List.set_cons_zero, List.set_cons_succ]
      refine anyL_take (i := 2) (v := ?v2) rfl (by kernel_rfl) (by kernel_rfl) (by kernel_rfl) (by kernel_rfl) (fun _ _ _ h => h) (Or.inl ⟨by rfl, ?h2⟩) (unhide HS0) ?_
      case h2 => (intro w hSw; (try dsimp only at hSw); go_simp) <;> with_reducible rfl
      simp only [Act.put, List.getElem_toArray, List.getElem_cons_zero, List.getElem_cons_succ, List.setIfInBounds_toArray, List.set_cons_zero, List.set_cons_succ]
      refine anyL_ready (rs := [3]) (by kernel_rfl) (by simp) ?_
      refine AllL.cons rfl (fun K hK => ?_) AllL.nil
      go_simp
      refine (unitsOf_at rn wd6).mono ?_
      rintro e w7 ⟨rfl, rfl⟩
      try dsimp only
      refine unhide hK _ _ (fun _ => unhide HS0) ?_
      clear hK K
      have hwr : IntKind.i64.wrap (U + uni1 rn) = U + uni1 rn := by rw [IntKind.wrap_i64]; omega
      refine anyL_take (i := 4) (v := ?v4) rfl (by kernel_rfl) (by kernel_rfl) (by kernel_rfl) (by kernel_rfl) (fun _ _ _ h => h) (Or.inl ⟨by rfl, ?h4⟩) (unhide HS0) ?_
      case h4 => (intro w hSw; (try dsimp only at hSw); go_simp) <;> with_reducible rfl
      simp only [Act.put, List.getElem_toArray, List.getElem_cons_zero, List.getElem_cons_succ, List.setIfInBounds_toArray, List.set_cons_zero, List.set_cons_succ]
      refine anyL_take (i := 5) (v := ?v5) rfl (by kernel_rfl) (by kernel_rfl) (by kernel_rfl) (by kernel_rfl) (fun _ _ _ h => h) (Or.inl ⟨by rfl, ?h5⟩) (unhide HS0) ?_
      case h5 => (intro w hSw; (try dsimp only at hSw); go_simp) <;> with_reducible rfl
      simp only [Act.put, List.getElem_toArray, List.getElem_cons_zero, List.getElem_cons_succ, List.setIfInBounds_toArray, List.set_cons_zero, List.set_cons_succ]
      have c72 := unhide HS0
      have x7 := box4_2 x6' (.int .i64 (U + uni1 rn))
      have b7 : Below w1.heap.size w1 (w7.setCell ⟨gz, 2, none⟩ (.int .i64 (U + uni1 rn))) := b6'.setCell (p := ⟨gz, 2, none⟩) (by show _ ≤ gz; omega) _
      have z7 : (w7.setCell ⟨gz, 2, none⟩ (.int .i64 (U + uni1 rn))).heap.size = w7.heap.size := by simp [World.setCell]
      refine anyL_ready (rs := [6]) (by kernel_rfl) (by simp) ?_
      refine AllL.cons rfl (fun K hK => ?_) AllL.nil
      go_simp
      refine unhide hK _ _ (fun h => absurd h (by decide)) ?_
      clear hK K
      refine anyL_done (by kernel_rfl) ?_ _
      have hdr := IsN.dropN (n := wd) (unhide HI)
      rw [List.drop_drop] at hdr
      have HX7 := hide x7
      have HB7 := hide b7
      have hR' : Hid (R + 1 + ((spots l (k + wd)).length : Int) = (rnN l : Int)) := hide (by have := unhide hR; rw [unhide HSP] at this; simp at this; omega)
      have hU' : Hid (U + uni1 rn + usum l (spots l (k + wd)) = unN l) := hide (by have := unhide hU; rw [unhide HSP, unhide HUS] at this; omega)
      generalize uni1 rn = un at *
      generalize (w7.setCell ⟨gz, 2, none⟩ (.int .i64 (U + un))) = w8 at *
      clear x7 b7 x6' b6' HS0 c72 f62'
      have hsub : l.length - k - wd = l.length - (k + wd) := by omega
      have hwi : (wd : Int) ≤ ((l.length - k : Nat) : Int) := by omega
      have hci : ((l.length - k : Nat) : Int) ≤ (c : Int) := by omega
      by_cases hcn : c = wd
      · rw [if_pos hcn] at hdr
        have HDR := hide hdr
        clear hdr hwr
        subst hcn
        rw [Nat.sub_self] at HDR
        go_wp2_with fail
        exact ⟨⟨k + c, _, _, R + 1, U + un, rfl, hw2, HDR, by omega, by omega, by omega, hR', hU', HX7, HB7, by omega⟩, by simp only [slLen]; omega⟩
      · rw [if_neg hcn] at hdr
        have HDR : Hid (IsN w (some ⟨g, off + wd, none⟩) (c - wd) (l.drop (k + wd))) := hide (by simpa [Addr.add_lit] using hdr)
        clear hdr hwr
        go_wp2_with fail
        exact ⟨⟨k + wd, _, _, R + 1, U + un, rfl, hw2, HDR, by omega, by omega, by omega, hR', hU', HX7, HB7, by omega⟩, by simp only [slLen]; omega⟩
    · obtain rfl : k = l.length := by omega
      have hR1 : R = (rnN l : Int) := by have := unhide hR; rw [spots_end (by omega)] at this; simpa using this
      have hU1' : U = unN l := by have := unhide hU; rw [spots_end (by omega)] at this; simpa [usum] using this
      have hs0 : l.length - l.length = 0 := by omega
      obtain ⟨c50, c51, c52, c53, _⟩ := cells4 (unhide hx)
      have xr := ((unhide hb).block w.heap.size z0).trans g0
      obtain ⟨r0, r1, r2, r3, fr⟩ := cells4 xr
      have fr0 := fr 0
      have fr1 := fr 1
      have fr2 := fr 2
      have fr3 := fr 3
      clear fr
      go_wp2_with fail
      have xf := box4_all xr (.int .i64 l.length) (.int .i64 (rnN l)) (.int .i64 (unN l)) (.int .i64 E)
      have bf : Below w.heap.size w ((((wr.setCell ⟨w.heap.size, 0, none⟩ (.int .i64 l.length)).setCell ⟨w.heap.size, 1, none⟩ (.int .i64 (rnN l))).setCell ⟨w.heap.size, 2, none⟩ (.int .i64 (unN l))).setCell ⟨w.heap.size, 3, none⟩ (.int .i64 E)) :=
        (((bb.setCell (p := ⟨w.heap.size, 0, none⟩) (Nat.le_refl _) _).setCell (p := ⟨w.heap.size, 1, none⟩) (Nat.le_refl _) _).setCell (p := ⟨w.heap.size, 2, none⟩) (Nat.le_refl _) _).setCell (p := ⟨w.heap.size, 3, none⟩) (Nat.le_refl _) _
      generalize ((((wr.setCell ⟨w.heap.size, 0, none⟩ (.int .i64 l.length)).setCell ⟨w.heap.size, 1, none⟩ (.int .i64 (rnN l))).setCell ⟨w.heap.size, 2, none⟩ (.int .i64 (unN l))).setCell ⟨w.heap.size, 3, none⟩ (.int .i64 E)) = wf at *
      obtain ⟨q0, q1, q2, q3, _⟩ := cells4 xf
      refine bodyPost_ret (v := szV (szL l)) ?_ rfl ⟨rfl, bf⟩
      rw [show szL l = ⟨(l.length : Int), (rnN l : Int), unN l, E⟩ by rw [unhide HE]; rfl]
      simp [results, Tryz.results139, go_sem, q0, q1, q2, q3, szV]
end
section
def ofL (l : List Int) : We := ⟨szL l, l.take 3, tail3 l⟩
theorem cells6 {W : World} {g : Nat} {x y z u s r : Value} {t : TypeId} (h : W.heap[g]? = some (.cells #[x, y, z, u, s, r] t (0, 0))) : W.cell? ⟨g, 0, none⟩ = some x ∧ W.cell? ⟨g, 1, none⟩ = some y ∧ W.cell? ⟨g, 2, none⟩ = some z ∧ W.cell? ⟨g, 3, none⟩ = some u ∧ W.cell? ⟨g, 4, none⟩ = some s ∧ W.cell? ⟨g, 5, none⟩ = some r ∧ ∀ i, W.frozen? ⟨g, i, none⟩ = false := by
  refine ⟨by simp only [World.cell?, h]; rfl, by simp only [World.cell?, h]; rfl, by simp only [World.cell?, h]; rfl, by simp only [World.cell?, h]; rfl, by simp only [World.cell?, h]; rfl, by simp only [World.cell?, h]; rfl, fun i => by simp only [World.frozen?, h]; simp⟩
theorem box6_all {W : World} {g : Nat} {x y z u s r : Value} {t : TypeId} (h : W.heap[g]? = some (.cells #[x, y, z, u, s, r] t (0, 0))) (a b c d e f : Value) :
    ((((((W.setCell ⟨g, 0, none⟩ a).setCell ⟨g, 1, none⟩ b).setCell ⟨g, 2, none⟩ c).setCell ⟨g, 3, none⟩ d).setCell ⟨g, 4, none⟩ e).setCell ⟨g, 5, none⟩ f).heap[g]? = some (.cells #[a, b, c, d, e, f] t (0, 0)) := by
  have h0 := heap_setCell_same W g 0 #[x, y, z, u, s, r] t a h
  have h1 := heap_setCell_same _ g 1 _ t b h0
  have h2 := heap_setCell_same _ g 2 _ t c h1
  have h3 := heap_setCell_same _ g 3 _ t d h2
  have h4 := heap_setCell_same _ g 4 _ t e h3
  exact heap_setCell_same _ g 5 _ t f h4
theorem below6 {w W : World} {g : Nat} (h : Below w.heap.size w W) (hg : w.heap.size ≤ g) (a b c d e f : Value) : Below w.heap.size w ((((((W.setCell ⟨g, 0, none⟩ a).setCell ⟨g, 1, none⟩ b).setCell ⟨g, 2, none⟩ c).setCell ⟨g, 3, none⟩ d).setCell ⟨g, 4, none⟩ e).setCell ⟨g, 5, none⟩ f) :=
  (((((h.setCell (p := ⟨g, 0, none⟩) hg _).setCell (p := ⟨g, 1, none⟩) hg _).setCell (p := ⟨g, 2, none⟩) hg _).setCell (p := ⟨g, 3, none⟩) hg _).setCell (p := ⟨g, 4, none⟩) hg _).setCell (p := ⟨g, 5, none⟩) hg _
theorem below4 {w W : World} {g : Nat} (h : Below w.heap.size w W) (hg : w.heap.size ≤ g) (a b c d : Value) : Below w.heap.size w ((((W.setCell ⟨g, 0, none⟩ a).setCell ⟨g, 1, none⟩ b).setCell ⟨g, 2, none⟩ c).setCell ⟨g, 3, none⟩ d) :=
  (((h.setCell (p := ⟨g, 0, none⟩) hg _).setCell (p := ⟨g, 1, none⟩) hg _).setCell (p := ⟨g, 2, none⟩) hg _).setCell (p := ⟨g, 3, none⟩) hg _
theorem push_get (w : World) (o : Obj) : (w.alloc o).heap[w.heap.size]? = some o := by show (w.heap.push o)[w.heap.size]? = some o; simp
theorem Of_at (a0 : Option Addr) (cap : Nat) (l : List Int) (w : World) (hB : IsN w a0 cap l) (hl : l.length ≤ 268435456) (hW : Wt w) :
    Calls Tryz.prog 134 #[.slice a0 l.length cap] w fun e w' => e = .returned (weV (ofL l)) ∧ Below w.heap.size w w' := by
  have b0 : Below w.heap.size w (w.alloc (.cells #[.int .i64 0, .int .i64 0, .int .i64 0, .int .i64 0, .string ⟨#[]⟩, .string ⟨#[]⟩] 47)) := (Below.refl _ _).alloc (Nat.le_refl _) _
  have g0 := push_get w (.cells #[.int .i64 0, .int .i64 0, .int .i64 0, .int .i64 0, .string ⟨#[]⟩, .string ⟨#[]⟩] 47)
  have z0 : w.heap.size < (w.alloc (.cells #[.int .i64 0, .int .i64 0, .int .i64 0, .int .i64 0, .string ⟨#[]⟩, .string ⟨#[]⟩] 47)).heap.size := by simp
  have hle : ¬ ((268435456 : Int) < (l.length : Int)) := by omega
  go_enter Tryz.func134, Tryz.ntmps134
  go_wp2_with fail
  generalize (w.alloc (.cells #[.int .i64 0, .int .i64 0, .int .i64 0, .int .i64 0, .string ⟨#[]⟩, .string ⟨#[]⟩] 47)) = w1 at *
  refine (Sizes_at a0 cap l w1 (hB.below b0 (Nat.le_refl _)) hl (hW.below b0)).mono ?_
  unfold szV
  rintro e w2 ⟨rfl, b2⟩
  dsimp only
  have bb2 : Below w.heap.size w w2 := b0.trans (b2.mono b0.size)
  have x2 := (b2.block w.heap.size z0).trans g0
  go_wp2_with fail
  refine (head_at a0 cap l w2 (hB.1.below bb2 (Nat.le_refl _))).mono ?_
  rintro e w3 ⟨rfl, n3, rfl⟩
  dsimp only
  have bb3 : Below w.heap.size w (w2.drewN n3) := Below.drewN bb2 n3
  have x3 : (w2.drewN n3).heap[w.heap.size]? = _ := x2
  generalize w2.drewN n3 = w3 at *
  go_wp2_with fail
  refine (tail_at a0 cap l w3 (hB.1.below bb3 (Nat.le_refl _))).mono ?_
  rintro e w4 ⟨rfl, n4, rfl⟩
  dsimp only
  have bb4 : Below w.heap.size w (w3.drewN n4) := Below.drewN bb3 n4
  have x4 : (w3.drewN n4).heap[w.heap.size]? = _ := x3
  generalize w3.drewN n4 = w4 at *
  obtain ⟨c0, c1, c2, c3, c4, c5, f⟩ := cells6 x4
  have f0 := f 0
  have f1 := f 1
  have f2 := f 2
  have f3 := f 3
  have f4 := f 4
  have f5 := f 5
  clear f
  have xf := box6_all x4 (.int .i64 (szL l).b) (.int .i64 (szL l).r) (.int .i64 (szL l).u) (.int .i64 (szL l).e) (.string (strOfNums (l.take 3))) (.string (strOfNums (tail3 l)))
  have bf := below6 bb4 (Nat.le_refl _) (.int .i64 (szL l).b) (.int .i64 (szL l).r) (.int .i64 (szL l).u) (.int .i64 (szL l).e) (.string (strOfNums (l.take 3))) (.string (strOfNums (tail3 l)))
  have hof : weV (ofL l) = .agg #[.int .i64 (szL l).b, .int .i64 (szL l).r, .int .i64 (szL l).u, .int .i64 (szL l).e, .string (strOfNums (l.take 3)), .string (strOfNums (tail3 l))] := rfl
  have HO := hide hof
  clear hof
  generalize strOfNums (l.take 3) = sh at *
  generalize strOfNums (tail3 l) = st at *
  generalize (szL l).b = zb at *
  generalize (szL l).r = zr at *
  generalize (szL l).u = zu at *
  generalize (szL l).e = ze at *
  go_wp2_with fail
  clear c0 c1 c2 c3 c4 c5 f0 f1 f2 f3 f4 f5
  generalize ((((((w4.setCell ⟨w.heap.size, 0, none⟩ (.int .i64 zb)).setCell ⟨w.heap.size, 1, none⟩ (.int .i64 zr)).setCell ⟨w.heap.size, 2, none⟩ (.int .i64 zu)).setCell ⟨w.heap.size, 3, none⟩ (.int .i64 ze)).setCell ⟨w.heap.size, 4, none⟩ (.string sh)).setCell ⟨w.heap.size, 5, none⟩ (.string st)) = wf at *
  obtain ⟨q0, q1, q2, q3, q4, q5, _⟩ := cells6 xf
  refine bodyPost_ret (v := .agg #[.int .i64 zb, .int .i64 zr, .int .i64 zu, .int .i64 ze, .string sh, .string st]) (by simp [results, Tryz.results134, go_sem, q0, q1, q2, q3, q4, q5]) rfl ⟨by rw [unhide HO], bf⟩
def mayB (z : Sz) : Bool := decide (0 ≤ z.r ∧ z.r ≤ z.u ∧ z.u ≤ z.b) && (decide (0 ≤ z.r - (z.u - z.r)) && (decide (z.r - (z.u - z.r) ≤ z.b - 4 * (z.u - z.r)) && (decide (z.b - 4 * (z.u - z.r) ≤ 3 * (z.r - (z.u - z.r))) && (decide (0 ≤ z.e) && decide (z.e ≤ z.r)))))
theorem mayBe_at (b r u e : Int) (w : World) (hb : 0 ≤ b ∧ b ≤ 268435456) :
    Calls Tryz.prog 154 #[.agg #[.int .i64 b, .int .i64 r, .int .i64 u, .int .i64 e]] w fun x w' => x = .returned (.bool (mayB ⟨b, r, u, e⟩)) ∧ Below w.heap.size w w' := by
  have b0 : Below w.heap.size w (w.alloc (.cells #[.int .i64 b, .int .i64 r, .int .i64 u, .int .i64 e] 45)) := (Below.refl _ _).alloc (Nat.le_refl _) _
  obtain ⟨c0, c1, c2, c3, _⟩ := cells4 (push_get w (.cells #[.int .i64 b, .int .i64 r, .int .i64 u, .int .i64 e] 45))
  have hm : mayB ⟨b, r, u, e⟩ = (decide (0 ≤ r ∧ r ≤ u ∧ u ≤ b) && (decide (0 ≤ r - (u - r)) && (decide (r - (u - r) ≤ b - 4 * (u - r)) && (decide (b - 4 * (u - r) ≤ 3 * (r - (u - r))) && (decide (0 ≤ e) && decide (e ≤ r)))))) := rfl
  rw [hm]
  clear hm
  by_cases hin : 0 ≤ r ∧ r ≤ u ∧ u ≤ b
  · rw [decide_eq_true hin, Bool.true_and]
    have h1 : ¬ r < 0 := by omega
    have h2 : ¬ u < r := by omega
    have h3 : ¬ b < u := by omega
    go_enter Tryz.func154, Tryz.ntmps154
    go_wp2_with fail
    all_goals (go_ret; exact ⟨by (simp_all) <;> omega, b0⟩)
  · rw [decide_eq_false hin, Bool.false_and]
    go_enter Tryz.func154, Tryz.ntmps154
    rcases Int.lt_or_le r 0 with h1 | h1
    · go_wp2_with fail
      go_ret
      exact ⟨rfl, b0⟩
    · rcases Int.lt_or_le u r with h2 | h2
      · go_wp2_with fail
        go_ret
        exact ⟨rfl, b0⟩
      · have h3 : b < u := by omega
        go_wp2_with fail
        go_ret
        exact ⟨rfl, b0⟩
end
end Go.Proofs.YteamaneompijkaaGreatDoor
