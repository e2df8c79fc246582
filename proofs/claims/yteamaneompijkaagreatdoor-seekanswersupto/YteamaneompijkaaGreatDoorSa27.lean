/- Layer 5: the seam. -/
import Derived.Test.YteamaneompijkaaGreatDoorSa26
namespace Go.Proofs.YteamaneompijkaaGreatDoor
open Go.ChangeShapes Go.WideShapes Go.ChangeAt Go.RowKit
set_option maxRecDepth 100000
set_option maxHeartbeats 8000000
theorem IsN.bytesIn {w : World} {a0 : Option Addr} {cap : Nat} {l : List Int} (h : IsB w a0 cap l) : Lib.BytesIn w a0 l.length l := by
  intro hn
  rcases h.2.2.1 with h0 | ⟨g, off, e, hL⟩
  · rw [h0] at hn; simp at hn
  · exact ⟨g, off, e, fun i hi => (hL i hi).1⟩
theorem pre1 {l : List Int} (h : ∀ x ∈ l, 0 ≤ x ∧ x ≤ 255) {c : Int} (hc : 0 ≤ c ∧ c ≤ 255) : Lib.hasPrefix (Lib.bytesOf l) (Lib.bytesOf [c]) = decide (l.head? = some c) := by
  cases l with
  | nil => rfl
  | cons x r =>
    have hx := u8_eq (h x (List.mem_cons_self ..)) c.toNat (by omega)
    have e : Lib.hasPrefix (Lib.bytesOf (x :: r)) (Lib.bytesOf [c]) = ((UInt8.ofNat c.toNat == UInt8.ofNat x.toNat) && true) := rfl
    rw [e, Bool.and_true, List.head?_cons]
    rw [Bool.eq_iff_iff, beq_iff_eq, decide_eq_true_eq, eq_comm (a := UInt8.ofNat c.toNat), hx, Option.some.injEq]
    omega
theorem suf1 {l : List Int} (h : ∀ x ∈ l, 0 ≤ x ∧ x ≤ 255) {c : Int} (hc : 0 ≤ c ∧ c ≤ 255) : Lib.hasSuffix (Lib.bytesOf l) (Lib.bytesOf [c]) = decide (l.getLast? = some c) := by
  have h1 := pre1 (l := l.reverse) (fun x hx => h x (by simpa using hx)) hc
  rw [List.head?_reverse] at h1
  rw [← h1]
  unfold Lib.hasSuffix Lib.hasPrefix List.isSuffixOf
  simp [Lib.bytesOf]
theorem HasPre_at (a0 : Option Addr) (cap n : Nat) (l : List Int) (g : Nat) (c : Int) {v : Bool} (w : World) (hn : n = l.length) (hB : IsB w a0 cap l) (hc : 0 ≤ c ∧ c ≤ 255) (hg : IsB w (some ⟨g, 0, none⟩) 1 [c]) (hv : decide (l.head? = some c) = v) :
    Calls Tryz.prog 156 #[.slice a0 n cap, .slice (some ⟨g, 0, none⟩) 1 1] w fun e w' => e = .returned (.bool v) ∧ w' = w := by
  subst hn
  have := Any.bytes_HasPrefix_all Tryz.laysnb116 a0 (some ⟨g, 0, none⟩) l.length cap 1 1 l [c] w rfl rfl hB.1 (IsN.bytesIn hB) (IsN.bytesIn hg)
  rw [pre1 hB.2.2.2 hc, hv] at this
  exact this
theorem HasSuf_at (a0 : Option Addr) (cap n : Nat) (l : List Int) (g : Nat) (c : Int) {v : Bool} (w : World) (hn : n = l.length) (hB : IsB w a0 cap l) (hc : 0 ≤ c ∧ c ≤ 255) (hg : IsB w (some ⟨g, 0, none⟩) 1 [c]) (hv : decide (l.getLast? = some c) = v) :
    Calls Tryz.prog 155 #[.slice a0 n cap, .slice (some ⟨g, 0, none⟩) 1 1] w fun e w' => e = .returned (.bool v) ∧ w' = w := by
  subst hn
  have := Any.bytes_HasSuffix_all Tryz.laysnb117 a0 (some ⟨g, 0, none⟩) l.length cap 1 1 l [c] w rfl rfl hB.1 (by have := hB.2.1; omega) (IsN.bytesIn hB) (IsN.bytesIn hg)
  rw [suf1 hB.2.2.2 hc, hv] at this
  exact this
theorem cells3 {W : World} {g : Nat} {x y z : Value} {t : TypeId} (h : W.heap[g]? = some (.cells #[x, y, z] t (0, 0))) : W.cell? ⟨g, 0, none⟩ = some x ∧ W.cell? ⟨g, 1, none⟩ = some y ∧ W.cell? ⟨g, 2, none⟩ = some z :=
  ⟨by simp only [World.cell?, h]; rfl, by simp only [World.cell?, h]; rfl, by simp only [World.cell?, h]; rfl⟩
theorem set_other (W : World) {g k o : Nat} (v : Value) (h : k ≠ g) : (W.setCell ⟨g, o, none⟩ v).heap[k]? = W.heap[k]? := heap_setCell_other W ⟨g, o, none⟩ k v h
theorem isN_set {W : World} {g c k : Nat} {x : List Int} {o : Nat} {v : Value} (h : IsN W (some ⟨g, o, none⟩) c x) (hg : g ≠ k) {j : Nat} : IsN (W.setCell ⟨k, j, none⟩ v) (some ⟨g, o, none⟩) c x := by
  obtain ⟨⟨h1, h2, h3, h4⟩, h5⟩ := h
  refine ⟨⟨h1, h2, ?_, h4⟩, h5⟩
  rcases h3 with h0 | ⟨g', off', e, hL⟩
  · exact Or.inl h0
  · cases e
    refine Or.inr ⟨g, o, rfl, fun i hi => ?_⟩
    have := hL i hi
    exact ⟨(World.cell?_of_block (a := ⟨g, o + i, none⟩) (set_other W v hg)).trans this.1, this.2⟩
def seamR (x : List Int) (p : Nat) : Int := if inside x p then (wid (x.drop (flr x p)) : Int) - 1 else 0
def seamU (x : List Int) (p : Nat) : Int := if inside x p then (wid (x.drop (flr x p)) : Int) - uni1 (first (x.drop (flr x p))).1 else 0
def seamE (s t : List Int) : Int := if s.getLast? = some 13 ∧ t.head? = some 10 then 1 else 0
def seamL (s t : List Int) : Sz := ⟨0, seamR (s ++ t) s.length, seamU (s ++ t) s.length, seamE s t⟩
theorem seam_at (s t : List Int) (w : World) (hW : Wt w) (hs : ∀ x ∈ s, 0 ≤ x ∧ x ≤ 255) (ht : ∀ x ∈ t, 0 ≤ x ∧ x ≤ 255) (s3 : s.length ≤ 3) (t3 : t.length ≤ 3) :
    Calls Tryz.prog 148 #[.string (strOfNums s), .string (strOfNums t)] w fun y w' => y = .returned (szV (seamL s t)) ∧ Below w.heap.size w w' := by
  have b0 : Below w.heap.size w (w.alloc (.cells #[.int .i64 0, .int .i64 0, .int .i64 0, .int .i64 0] 45)) := (Below.refl _ _).alloc (Nat.le_refl _) _
  have g0 := push_get w (.cells #[.int .i64 0, .int .i64 0, .int .i64 0, .int .i64 0] 45)
  have z0 : w.heap.size < (w.alloc (.cells #[.int .i64 0, .int .i64 0, .int .i64 0, .int .i64 0] 45)).heap.size := by simp
  have hss : (strOfNums s).size = s.length := strOfNums_size s
  have hcat : ¬ 9223372036854775807 < s.length + (strOfNums t).size := by rw [strOfNums_size]; omega
  have hap := str_app s t
  have hby : ∀ x ∈ s ++ t, 0 ≤ x ∧ x ≤ 255 := fun x hx => by
    rcases List.mem_append.1 hx with hx | hx
    · exact hs x hx
    · exact ht x hx
  have hxl : (s ++ t).length = s.length + t.length := List.length_append
  have hsm : seamL s t = ⟨0, seamR (s ++ t) s.length, seamU (s ++ t) s.length, seamE s t⟩ := rfl
  obtain ⟨x, hx⟩ : ∃ x, x = s ++ t := ⟨_, rfl⟩
  obtain ⟨p, hp⟩ : ∃ p, p = s.length := ⟨_, rfl⟩
  have hsx : s = x.take p := by rw [hx, hp]; simp
  have htx : t = x.drop p := by rw [hx, hp]; simp
  rw [← hx] at hap hby hxl hsm
  rw [← hp] at hss hcat hxl s3 hsm
  rw [hsm]
  clear hsm
  have hpl : p ≤ x.length := by omega
  have HSX := hide hsx
  have HTX := hide htx
  have HBY := hide hby
  have HS := hide hs
  have HT := hide ht
  have hxl2 : x.length ≤ 6 := by omega
  clear hsx htx hby hs ht hx hp
  go_enter Tryz.func148, Tryz.ntmps148
  go_upto_region 1 with fail
  generalize (w.alloc (.cells #[.int .i64 0, .int .i64 0, .int .i64 0, .int .i64 0] 45)) = w1 at *
  obtain ⟨c, w2, r2, i2, b2, hgx⟩ := toBytes w1 x (unhide HBY) (by omega)
  have z2 := b2.size
  have hc := i2.1.1
  have hpc : (p : Int) ≤ (c : Int) := by omega
  have htl : t.length = x.length - p := by omega
  have HTL := hide htl
  clear htl hxl t3
  have g2 := (b2.block w.heap.size z0).trans g0
  have bb2 : Below w.heap.size w w2 := b0.trans (b2.mono b0.size)
  have b3 : Below w2.heap.size w2 (w2.alloc (.cells #[.int .i64 0, .int .i64 0, .int .i64 0, .int .i64 0] 45)) := (Below.refl _ _).alloc (Nat.le_refl _) _
  have x3 := push_get w2 (.cells #[.int .i64 0, .int .i64 0, .int .i64 0, .int .i64 0] 45)
  have z3 : (w2.alloc (.cells #[.int .i64 0, .int .i64 0, .int .i64 0, .int .i64 0] 45)).heap.size = w2.heap.size + 1 := by simp
  go_upto_region 3 with fail
  clear r2 b2 b0 g0 hss hcat hap
  have i3 := i2.below b3 (Nat.le_refl _)
  have bb3 := bb2.trans (b3.mono bb2.size)
  have g3 := (b3.block w.heap.size (by omega)).trans g2
  generalize (w2.alloc (.cells #[.int .i64 0, .int .i64 0, .int .i64 0, .int .i64 0] 45)) = w3 at *
  generalize w1.heap.size = gx at *
  generalize w2.heap.size = gl at *
  clear bb2 b3 g2
  have z3' : gl < w3.heap.size := by omega
  have zw3 : w.heap.size < w3.heap.size := by omega
  have hwl : w.heap.size ≤ gl ∧ w.heap.size ≠ gl := by omega
  clear z3
  have hcv := conv_litW w3 #[.int .u8 13] 1
  have HI3 := hide i3
  clear i2 i3
  go_wp2_with fail
  clear hcv
  have b4 : Below w3.heap.size w3 (w3.alloc (.cells #[.int .u8 13] 5 (1, 2))) := (Below.refl _ _).alloc (Nat.le_refl _) _
  have i4 : IsB (w3.alloc (.cells #[.int .u8 13] 5 (1, 2))) (some ⟨w3.heap.size, 0, none⟩) 1 [13] := lit_isW w3 [13] (1, 2) (by decide) (by decide)
  have zz4 : w3.heap.size ≤ (w3.alloc (.cells #[.int .u8 13] 5 (1, 2))).heap.size := by simp
  generalize (w3.alloc (.cells #[.int .u8 13] 5 (1, 2))) = wE at *
  have bbE := bb3.trans (b4.mono bb3.size)
  have xE := (b4.block gl z3').trans x3
  have gE := (b4.block w.heap.size zw3).trans g3
  have HIE := hide ((unhide HI3).below b4 (Nat.le_refl _))
  have zE : gl < wE.heap.size := by omega
  have zEw : w.heap.size < wE.heap.size := by omega
  have hpt : p = (x.take p).length := by rw [List.length_take]; omega
  have HPT := hide hpt
  clear hpt b4 g3 x3 bb3
  cases h13 : decide (s.getLast? = some 13) with
  | false =>
    have HSE : Hid (seamE s t = 0) := hide (by unfold seamE; rw [if_neg (fun h => by rw [decide_eq_true h.1] at h13; cases h13)])
    refine (HasSuf_at (v := false) (some ⟨gx, 0, none⟩) c p (x.take p) w3.heap.size 13 wE (unhide HPT) ((unhide HIE).1.takeW hpl) (by decide) i4 (by rw [← unhide HSX]; exact h13)).mono ?_
    rintro y wE' ⟨rfl, rfl⟩
    clear i4 h13
    dsimp only
    generalize wE' = wE at *
    have hfv : floorV x (p : Int) = .tuple #[.int .i64 (flr x p : Nat), .int .i64 0] := by unfold floorV; rw [if_neg (by omega)]; simp
    have HFL := hide (Floor_at (some ⟨gx, 0, none⟩) c (p : Int) x wE (unhide HIE).1 (hW.below bbE).1)
    rw [hfv] at HFL
    clear hfv
    have HPL := hide hpl
    clear hpl
    try dsimp only
    go_wp2_with fail
    refine (unhide HFL).mono ?_
    rintro y w4 ⟨rfl, b4⟩
    clear HFL
    dsimp only
    have z4 := b4.size
    have bb4 := bbE.trans (b4.mono bbE.size)
    have x4 := (b4.block gl zE).trans xE
    have g4 := (b4.block w.heap.size zEw).trans gE
    have zw4 : w.heap.size < w4.heap.size := by omega
    have zl4 : gl < w4.heap.size := by omega
    by_cases hin : inside x p = true
    · have hfo := flr_wid hin
      have hfe := flr_edge x p
      have hsr : seamR x p = (wid (x.drop (flr x p)) : Int) - 1 := by unfold seamR; rw [if_pos hin]
      have hsu : seamU x p = (wid (x.drop (flr x p)) : Int) - uni1 (first (x.drop (flr x p))).1 := by unfold seamU; rw [if_pos hin]
      have hav : atV x ((flr x p : Nat) : Int) = .tuple #[stp (x.drop (flr x p)), .int .i64 0] := by
        unfold atV
        rw [if_neg (by have := unhide HPL; omega), Int.toNat_natCast, if_neg (by rw [hfe]; decide)]
      have HAT := hide (At_at (some ⟨gx, 0, none⟩) c ((flr x p : Nat) : Int) x w4 ((unhide HIE).1.below b4 (Nat.le_refl _)) (hW.below bb4).1)
      rw [hav] at HAT
      have HSR := hide hsr
      have HSU := hide hsu
      unfold stp stepV at HAT
      have hfne : ¬ ((flr x p : Nat) : Int) = (p : Int) := by omega
      have hfne2 : ¬ flr x p = p := by omega
      have hwl : wid (x.drop (flr x p)) ≤ 4 := wid_four _
      have hw0 : 1 ≤ wid (x.drop (flr x p)) := by omega
      clear hav hsr hsu hfe hfo
      generalize flr x p = f at *
      generalize wid (x.drop f) = wd at *
      have hun := uni1_in (first (x.drop f)).1
      generalize (first (x.drop f)).1 = rn at *
      generalize whl (x.drop f) = wh at *
      go_wp2_with fail
      refine (unhide HAT).mono ?_
      rintro y w5 ⟨rfl, b5⟩
      clear HAT
      dsimp only
      have z5 := b5.size
      have bb5 := bb4.trans (b5.mono bb4.size)
      have x5 := (b5.block gl zl4).trans x4
      have g5 := (b5.block w.heap.size zw4).trans g4
      have b6 : Below w5.heap.size w5 (w5.alloc (.cells #[.int .i32 rn, .int .i64 (wd : Int), .bool wh] 82)) := (Below.refl _ _).alloc (Nat.le_refl _) _
      have y6 := push_get w5 (.cells #[.int .i32 rn, .int .i64 (wd : Int), .bool wh] 82)
      have z6 : w5.heap.size < (w5.alloc (.cells #[.int .i32 rn, .int .i64 (wd : Int), .bool wh] 82)).heap.size := by simp
      go_upto_region 9 with fail
      have bb6 := bb5.trans (b6.mono bb5.size)
      have x6 := (b6.block gl (by omega)).trans x5
      have g6 := (b6.block w.heap.size (by omega)).trans g5
      generalize (w5.alloc (.cells #[.int .i32 rn, .int .i64 (wd : Int), .bool wh] 82)) = w6 at *
      have hgs : gl < w5.heap.size := by omega
      have hws : w.heap.size < w5.heap.size := by omega
      generalize w5.heap.size = gs at *
      obtain ⟨y0, y1, _⟩ := cells3 y6
      obtain ⟨_, c61, _, _, f6⟩ := cells4 x6
      have f61 := f6 1
      have x7 := box4_1 x6 (.int .i64 ((wd : Int) - 1))
      have bb7 : Below w.heap.size w (w6.setCell ⟨gl, 1, none⟩ (.int .i64 ((wd : Int) - 1))) := bb6.setCell (p := ⟨gl, 1, none⟩) (by show _ ≤ gl; omega) _
      have y7 : (w6.setCell ⟨gl, 1, none⟩ (.int .i64 ((wd : Int) - 1))).heap[gs]? = _ := (set_other w6 _ (by omega)).trans y6
      have g7 : (w6.setCell ⟨gl, 1, none⟩ (.int .i64 ((wd : Int) - 1))).heap[w.heap.size]? = _ := (set_other w6 _ (by omega)).trans g6
      clear f6
      go_upto_region 10 with fail
      clear y0 y1 c61 f61 x6 g6 y6 bb6
      have bb7' : Below w.heap.size w (w6.setCell ⟨gl, 1, none⟩ (.int .i64 ((wd : Int) - 1))).drew := Below.drewN bb7 1
      have x7' : (w6.setCell ⟨gl, 1, none⟩ (.int .i64 ((wd : Int) - 1))).drew.heap[gl]? = _ := x7
      have y7' : (w6.setCell ⟨gl, 1, none⟩ (.int .i64 ((wd : Int) - 1))).drew.heap[gs]? = _ := y7
      have g7' : (w6.setCell ⟨gl, 1, none⟩ (.int .i64 ((wd : Int) - 1))).drew.heap[w.heap.size]? = _ := g7
      obtain ⟨y0, y1, _⟩ := cells3 y7'
      obtain ⟨_, _, c72, _, f7⟩ := cells4 x7'
      have f72 := f7 2
      have HS0 : Hid ((w6.setCell ⟨gl, 1, none⟩ (.int .i64 ((wd : Int) - 1))).drew.cell? ⟨gs, 0, none⟩ = some (.int .i32 rn) ∧ (w6.setCell ⟨gl, 1, none⟩ (.int .i64 ((wd : Int) - 1))).drew.cell? ⟨gs, 1, none⟩ = some (.int .i64 (wd : Int))) := hide ⟨y0, y1⟩
      clear bb7 x7 y7 g7 y0 y1 f7
      refine regionL (S := fun w' => w'.cell? ⟨gs, 0, none⟩ = some (.int .i32 rn) ∧ w'.cell? ⟨gs, 1, none⟩ = some (.int .i64 (wd : Int))) (fun i => i == 7) (by kernel_rfl) ?_
      generalize (w6.setCell ⟨gl, 1, none⟩ (.int .i64 ((wd : Int) - 1))).drew = w7 at *
      refine anyL_take (i := 0) (v := ?va0) rfl (by kernel_rfl) (by kernel_rfl) (by kernel_rfl) (by kernel_rfl) (fun _ _ _ h => h) (Or.inl ⟨by rfl, ?gva0⟩) (unhide HS0) ?_
      case gva0 => (intro w hSw; (try dsimp only at hSw); go_simp) <;> with_reducible rfl
      simp only [Act.put, List.getElem_toArray, List.getElem_cons_zero, List.setIfInBounds_toArray, List.set_cons_zero, List.set_cons_succ]
      refine anyL_take (i := 1) (v := ?va1) rfl (by kernel_rfl) (by kernel_rfl) (by kernel_rfl) (by kernel_rfl) (fun _ _ _ h => h) (Or.inl ⟨by rfl, ?gva1⟩) (unhide HS0) ?_
      case gva1 => (intro w hSw; (try dsimp only at hSw); go_simp) <;> with_reducible rfl
      simp only [Act.put, List.getElem_toArray, List.getElem_cons_zero, List.getElem_cons_succ, List.setIfInBounds_toArray, List.set_cons_zero, List.set_cons_succ]
      refine anyL_take (i := 2) (v := ?va2) rfl (by kernel_rfl) (by kernel_rfl) (by kernel_rfl) (by kernel_rfl) (fun _ _ _ h => h) (Or.inl ⟨by rfl, ?gva2⟩) (unhide HS0) ?_
      case gva2 => (intro w hSw; (try dsimp only at hSw); go_simp) <;> with_reducible rfl
      simp only [Act.put, List.getElem_toArray, List.getElem_cons_zero, List.getElem_cons_succ, List.setIfInBounds_toArray, List.set_cons_zero, List.set_cons_succ]
      refine anyL_take (i := 3) (v := ?va3) rfl (by kernel_rfl) (by kernel_rfl) (by kernel_rfl) (by kernel_rfl) (fun _ _ _ h => h) (Or.inl ⟨by rfl, ?gva3⟩) (unhide HS0) ?_
      case gva3 => (intro w hSw; (try dsimp only at hSw); go_simp) <;> with_reducible rfl
      simp only [Act.put, List.getElem_toArray, List.getElem_cons_zero, List.getElem_cons_succ, List.setIfInBounds_toArray, List.set_cons_zero, List.set_cons_succ]
      refine anyL_ready (rs := [4]) (by kernel_rfl) (by simp) ?_
      refine AllL.cons rfl (fun K hK => ?_) AllL.nil
      go_simp
      refine (unitsOf_at rn w7).mono ?_
      rintro y w8 ⟨rfl, rfl⟩
      try dsimp only
      refine unhide hK _ _ (fun _ => unhide HS0) ?_
      clear hK K
      generalize uni1 rn = un at *
      have hwr : IntKind.i64.wrap ((wd : Int) - un) = (wd : Int) - un := by rw [IntKind.wrap_i64]; omega
      refine anyL_take (i := 5) (v := ?va5) rfl (by kernel_rfl) (by kernel_rfl) (by kernel_rfl) (by kernel_rfl) (fun _ _ _ h => h) (Or.inl ⟨by rfl, ?gva5⟩) (unhide HS0) ?_
      case gva5 => (intro w hSw; (try dsimp only at hSw); go_simp) <;> with_reducible rfl
      simp only [Act.put, List.getElem_toArray, List.getElem_cons_zero, List.getElem_cons_succ, List.setIfInBounds_toArray, List.set_cons_zero, List.set_cons_succ]
      refine anyL_take (i := 6) (v := ?va6) rfl (by kernel_rfl) (by kernel_rfl) (by kernel_rfl) (by kernel_rfl) (fun _ _ _ h => h) (Or.inl ⟨by rfl, ?gva6⟩) (unhide HS0) ?_
      case gva6 => (intro w hSw; (try dsimp only at hSw); go_simp) <;> with_reducible rfl
      simp only [Act.put, List.getElem_toArray, List.getElem_cons_zero, List.getElem_cons_succ, List.setIfInBounds_toArray, List.set_cons_zero, List.set_cons_succ]
      refine anyL_ready (rs := [7]) (by kernel_rfl) (by simp) ?_
      refine AllL.cons rfl (fun K hK => ?_) AllL.nil
      go_simp
      refine unhide hK _ _ (fun h => absurd h (by decide)) ?_
      clear hK K
      refine anyL_done (by kernel_rfl) ?_ _
      have x9 := box4_2 x7' (.int .i64 ((wd : Int) - un))
      have bb9 : Below w.heap.size w (w8.setCell ⟨gl, 2, none⟩ (.int .i64 ((wd : Int) - un))) := bb7'.setCell (p := ⟨gl, 2, none⟩) (by show _ ≤ gl; omega) _
      have g9 : (w8.setCell ⟨gl, 2, none⟩ (.int .i64 ((wd : Int) - un))).heap[w.heap.size]? = _ := (set_other w8 _ (by omega)).trans g7'
      generalize (w8.setCell ⟨gl, 2, none⟩ (.int .i64 ((wd : Int) - un))) = w9 at *
      clear bb7' x7' y7' g7' c72 f72 HS0 hwr
      obtain ⟨l0, l1, l2, l3, _⟩ := cells4 x9
      obtain ⟨r0, r1, r2, r3, fr⟩ := cells4 g9
      have fr0 := fr 0
      have fr1 := fr 1
      have fr2 := fr 2
      have fr3 := fr 3
      have xf := box4_all g9 (.int .i64 0) (.int .i64 ((wd : Int) - 1)) (.int .i64 ((wd : Int) - un)) (.int .i64 0)
      have bf := below4 bb9 (Nat.le_refl _) (.int .i64 0) (.int .i64 ((wd : Int) - 1)) (.int .i64 ((wd : Int) - un)) (.int .i64 0)
      clear fr x9 g9
      go_wp2_with fail
      clear l0 l1 l2 l3 r0 r1 r2 r3 fr0 fr1 fr2 fr3
      generalize ((((w9.setCell ⟨w.heap.size, 0, none⟩ (.int .i64 0)).setCell ⟨w.heap.size, 1, none⟩ (.int .i64 ((wd : Int) - 1))).setCell ⟨w.heap.size, 2, none⟩ (.int .i64 ((wd : Int) - un))).setCell ⟨w.heap.size, 3, none⟩ (.int .i64 0)) = wf at *
      obtain ⟨q0, q1, q2, q3, _⟩ := cells4 xf
      refine bodyPost_ret (v := .agg #[.int .i64 0, .int .i64 ((wd : Int) - 1), .int .i64 ((wd : Int) - un), .int .i64 0]) (by simp [results, Tryz.results148, go_sem, q0, q1, q2, q3]) rfl ⟨by rw [unhide HSR, unhide HSU, unhide HSE]; rfl, bf⟩
    · have hin' : inside x p = false := by simpa using hin
      have hsr : seamR x p = 0 := by unfold seamR; rw [hin']; rfl
      have hsu : seamU x p = 0 := by unfold seamU; rw [hin']; rfl
      have hfp := flr_eq hin'
      have HSR := hide hsr
      have HSU := hide hsu
      rw [hfp]
      obtain ⟨l0, l1, l2, l3, _⟩ := cells4 x4
      obtain ⟨r0, r1, r2, r3, fr⟩ := cells4 g4
      have fr0 := fr 0
      have fr1 := fr 1
      have fr2 := fr 2
      have fr3 := fr 3
      have xf := box4_all g4 (.int .i64 0) (.int .i64 0) (.int .i64 0) (.int .i64 0)
      have bf := below4 bb4 (Nat.le_refl _) (.int .i64 0) (.int .i64 0) (.int .i64 0) (.int .i64 0)
      clear fr x4 g4 hfp hsr hsu hin hin'
      go_wp2_with fail
      clear l0 l1 l2 l3 r0 r1 r2 r3 fr0 fr1 fr2 fr3
      generalize ((((w4.setCell ⟨w.heap.size, 0, none⟩ (.int .i64 0)).setCell ⟨w.heap.size, 1, none⟩ (.int .i64 0)).setCell ⟨w.heap.size, 2, none⟩ (.int .i64 0)).setCell ⟨w.heap.size, 3, none⟩ (.int .i64 0)) = wf at *
      obtain ⟨q0, q1, q2, q3, _⟩ := cells4 xf
      refine bodyPost_ret (v := .agg #[.int .i64 0, .int .i64 0, .int .i64 0, .int .i64 0]) (by simp [results, Tryz.results148, go_sem, q0, q1, q2, q3]) rfl ⟨by rw [unhide HSR, unhide HSU, unhide HSE]; rfl, bf⟩
  | true =>
    refine (HasSuf_at (v := true) (some ⟨gx, 0, none⟩) c p (x.take p) w3.heap.size 13 wE (unhide HPT) ((unhide HIE).1.takeW hpl) (by decide) i4 (by rw [← unhide HSX]; exact h13)).mono ?_
    rintro y wE' ⟨rfl, rfl⟩
    clear i4
    dsimp only
    have b5 : Below wE'.heap.size wE' (wE'.alloc (.cells #[.int .u8 10] 5 (1, 2))) := (Below.refl _ _).alloc (Nat.le_refl _) _
    have i5 : IsB (wE'.alloc (.cells #[.int .u8 10] 5 (1, 2))) (some ⟨wE'.heap.size, 0, none⟩) 1 [10] := lit_isW wE' [10] (1, 2) (by decide) (by decide)
    have Z5 := hide b5.size
    have B5 := hide b5
    have I5 := hide i5
    have H13 := hide h13
    clear b5 i5 h13
    have hcv := conv_litW wE' #[.int .u8 10] 1
    have hpi : (p : Int) ≤ (x.length : Int) := by omega
    have hci : (x.length : Int) ≤ (c : Int) := by omega
    by_cases hcp : c = p
    · have HSE : Hid (seamE s t = 0) := hide (by
        unfold seamE
        rw [if_neg (fun h => by
          have h2 := h.2
          rw [unhide HTX, List.drop_of_length_le (by omega)] at h2
          cases h2)])
      have HXP : Hid (x.length - p = 0) := hide (by omega)
      subst hcp
      go_wp2_with fail
      clear hcv
      have zz5 := unhide Z5
      have b5 := unhide B5
      have i5 := unhide I5
      have h13 := unhide H13
      clear Z5 B5 I5 H13
      generalize (wE'.alloc (.cells #[.int .u8 10] 5 (1, 2))) = wF at *
      refine (HasPre_at (v := false) (some ⟨gx, 0, none⟩) 0 0 [] wE'.heap.size 10 wF rfl ⟨Nat.le_refl _, by simp, Or.inl rfl, by simp⟩ (by decide) i5 rfl).mono ?_
      rintro y wF' ⟨rfl, rfl⟩
      dsimp only
      have bbF := bbE.trans (b5.mono bbE.size)
      have xF := (b5.block gl zE).trans xE
      have gF := (b5.block w.heap.size zEw).trans gE
      have HIF := hide ((unhide HIE).below b5 (Nat.le_refl _))
      have zF : gl < wF'.heap.size := by omega
      have zFw : w.heap.size < wF'.heap.size := by omega
      clear bbE xE gE HIE zE zEw b5 i5 h13
      obtain ⟨bbE, xE, gE, zE, zEw⟩ := And.intro bbF (And.intro xF (And.intro gF (And.intro zF zFw)))
      have HIE := HIF
      clear bbF xF gF zF zFw HIF
      generalize wF' = wE at *
      clear hc hpc hpi hci HXP
      have hfv : floorV x (c : Int) = .tuple #[.int .i64 (flr x c : Nat), .int .i64 0] := by unfold floorV; rw [if_neg (by omega)]; simp
      have HFL := hide (Floor_at (some ⟨gx, 0, none⟩) c (c : Int) x wE (unhide HIE).1 (hW.below bbE).1)
      rw [hfv] at HFL
      clear hfv
      have HPL := hide hpl
      clear hpl
      try dsimp only
      go_wp2_with fail
      refine (unhide HFL).mono ?_
      rintro y w4 ⟨rfl, b4⟩
      clear HFL
      dsimp only
      have z4 := b4.size
      have bb4 := bbE.trans (b4.mono bbE.size)
      have x4 := (b4.block gl zE).trans xE
      have g4 := (b4.block w.heap.size zEw).trans gE
      have zw4 : w.heap.size < w4.heap.size := by omega
      have zl4 : gl < w4.heap.size := by omega
      by_cases hin : inside x c = true
      · have hfo := flr_wid hin
        have hfe := flr_edge x c
        have hsr : seamR x c = (wid (x.drop (flr x c)) : Int) - 1 := by unfold seamR; rw [if_pos hin]
        have hsu : seamU x c = (wid (x.drop (flr x c)) : Int) - uni1 (first (x.drop (flr x c))).1 := by unfold seamU; rw [if_pos hin]
        have hav : atV x ((flr x c : Nat) : Int) = .tuple #[stp (x.drop (flr x c)), .int .i64 0] := by
          unfold atV
          rw [if_neg (by have := unhide HPL; omega), Int.toNat_natCast, if_neg (by rw [hfe]; decide)]
        have HAT := hide (At_at (some ⟨gx, 0, none⟩) c ((flr x c : Nat) : Int) x w4 ((unhide HIE).1.below b4 (Nat.le_refl _)) (hW.below bb4).1)
        rw [hav] at HAT
        have HSR := hide hsr
        have HSU := hide hsu
        unfold stp stepV at HAT
        have hfne : ¬ ((flr x c : Nat) : Int) = (c : Int) := by omega
        have hfne2 : ¬ flr x c = c := by omega
        have hwl : wid (x.drop (flr x c)) ≤ 4 := wid_four _
        have hw0 : 1 ≤ wid (x.drop (flr x c)) := by omega
        clear hav hsr hsu hfe hfo
        generalize flr x c = f at *
        generalize wid (x.drop f) = wd at *
        have hun := uni1_in (first (x.drop f)).1
        generalize (first (x.drop f)).1 = rn at *
        generalize whl (x.drop f) = wh at *
        go_wp2_with fail
        refine (unhide HAT).mono ?_
        rintro y w5 ⟨rfl, b5⟩
        clear HAT
        dsimp only
        have z5 := b5.size
        have bb5 := bb4.trans (b5.mono bb4.size)
        have x5 := (b5.block gl zl4).trans x4
        have g5 := (b5.block w.heap.size zw4).trans g4
        have b6 : Below w5.heap.size w5 (w5.alloc (.cells #[.int .i32 rn, .int .i64 (wd : Int), .bool wh] 82)) := (Below.refl _ _).alloc (Nat.le_refl _) _
        have y6 := push_get w5 (.cells #[.int .i32 rn, .int .i64 (wd : Int), .bool wh] 82)
        have z6 : w5.heap.size < (w5.alloc (.cells #[.int .i32 rn, .int .i64 (wd : Int), .bool wh] 82)).heap.size := by simp
        go_upto_region 9 with fail
        have bb6 := bb5.trans (b6.mono bb5.size)
        have x6 := (b6.block gl (by omega)).trans x5
        have g6 := (b6.block w.heap.size (by omega)).trans g5
        generalize (w5.alloc (.cells #[.int .i32 rn, .int .i64 (wd : Int), .bool wh] 82)) = w6 at *
        have hgs : gl < w5.heap.size := by omega
        have hws : w.heap.size < w5.heap.size := by omega
        generalize w5.heap.size = gs at *
        obtain ⟨y0, y1, _⟩ := cells3 y6
        obtain ⟨_, c61, _, _, f6⟩ := cells4 x6
        have f61 := f6 1
        have x7 := box4_1 x6 (.int .i64 ((wd : Int) - 1))
        have bb7 : Below w.heap.size w (w6.setCell ⟨gl, 1, none⟩ (.int .i64 ((wd : Int) - 1))) := bb6.setCell (p := ⟨gl, 1, none⟩) (by show _ ≤ gl; omega) _
        have y7 : (w6.setCell ⟨gl, 1, none⟩ (.int .i64 ((wd : Int) - 1))).heap[gs]? = _ := (set_other w6 _ (by omega)).trans y6
        have g7 : (w6.setCell ⟨gl, 1, none⟩ (.int .i64 ((wd : Int) - 1))).heap[w.heap.size]? = _ := (set_other w6 _ (by omega)).trans g6
        clear f6
        go_upto_region 10 with fail
        clear y0 y1 c61 f61 x6 g6 y6 bb6
        have bb7' : Below w.heap.size w (w6.setCell ⟨gl, 1, none⟩ (.int .i64 ((wd : Int) - 1))).drew := Below.drewN bb7 1
        have x7' : (w6.setCell ⟨gl, 1, none⟩ (.int .i64 ((wd : Int) - 1))).drew.heap[gl]? = _ := x7
        have y7' : (w6.setCell ⟨gl, 1, none⟩ (.int .i64 ((wd : Int) - 1))).drew.heap[gs]? = _ := y7
        have g7' : (w6.setCell ⟨gl, 1, none⟩ (.int .i64 ((wd : Int) - 1))).drew.heap[w.heap.size]? = _ := g7
        obtain ⟨y0, y1, _⟩ := cells3 y7'
        obtain ⟨_, _, c72, _, f7⟩ := cells4 x7'
        have f72 := f7 2
        have HS0 : Hid ((w6.setCell ⟨gl, 1, none⟩ (.int .i64 ((wd : Int) - 1))).drew.cell? ⟨gs, 0, none⟩ = some (.int .i32 rn) ∧ (w6.setCell ⟨gl, 1, none⟩ (.int .i64 ((wd : Int) - 1))).drew.cell? ⟨gs, 1, none⟩ = some (.int .i64 (wd : Int))) := hide ⟨y0, y1⟩
        clear bb7 x7 y7 g7 y0 y1 f7
        refine regionL (S := fun w' => w'.cell? ⟨gs, 0, none⟩ = some (.int .i32 rn) ∧ w'.cell? ⟨gs, 1, none⟩ = some (.int .i64 (wd : Int))) (fun i => i == 7) (by kernel_rfl) ?_
        generalize (w6.setCell ⟨gl, 1, none⟩ (.int .i64 ((wd : Int) - 1))).drew = w7 at *
        refine anyL_take (i := 0) (v := ?vb0) rfl (by kernel_rfl) (by kernel_rfl) (by kernel_rfl) (by kernel_rfl) (fun _ _ _ h => h) (Or.inl ⟨by rfl, ?gvb0⟩) (unhide HS0) ?_
        case gvb0 => (intro w hSw; (try dsimp only at hSw); go_simp) <;> with_reducible rfl
        simp only [Act.put, List.getElem_toArray, List.getElem_cons_zero, List.setIfInBounds_toArray, List.set_cons_zero, List.set_cons_succ]
        refine anyL_take (i := 1) (v := ?vb1) rfl (by kernel_rfl) (by kernel_rfl) (by kernel_rfl) (by kernel_rfl) (fun _ _ _ h => h) (Or.inl ⟨by rfl, ?gvb1⟩) (unhide HS0) ?_
        case gvb1 => (intro w hSw; (try dsimp only at hSw); go_simp) <;> with_reducible rfl
        simp only [Act.put, List.getElem_toArray, List.getElem_cons_zero, List.getElem_cons_succ, List.setIfInBounds_toArray, List.set_cons_zero, List.set_cons_succ]
        refine anyL_take (i := 2) (v := ?vb2) rfl (by kernel_rfl) (by kernel_rfl) (by kernel_rfl) (by kernel_rfl) (fun _ _ _ h => h) (Or.inl ⟨by rfl, ?gvb2⟩) (unhide HS0) ?_
        case gvb2 => (intro w hSw; (try dsimp only at hSw); go_simp) <;> with_reducible rfl
        simp only [Act.put, List.getElem_toArray, List.getElem_cons_zero, List.getElem_cons_succ, List.setIfInBounds_toArray, List.set_cons_zero, List.set_cons_succ]
        refine anyL_take (i := 3) (v := ?vb3) rfl (by kernel_rfl) (by kernel_rfl) (by kernel_rfl) (by kernel_rfl) (fun _ _ _ h => h) (Or.inl ⟨by rfl, ?gvb3⟩) (unhide HS0) ?_
        case gvb3 => (intro w hSw; (try dsimp only at hSw); go_simp) <;> with_reducible rfl
        simp only [Act.put, List.getElem_toArray, List.getElem_cons_zero, List.getElem_cons_succ, List.setIfInBounds_toArray, List.set_cons_zero, List.set_cons_succ]
        refine anyL_ready (rs := [4]) (by kernel_rfl) (by simp) ?_
        refine AllL.cons rfl (fun K hK => ?_) AllL.nil
        go_simp
        refine (unitsOf_at rn w7).mono ?_
        rintro y w8 ⟨rfl, rfl⟩
        try dsimp only
        refine unhide hK _ _ (fun _ => unhide HS0) ?_
        clear hK K
        generalize uni1 rn = un at *
        have hwr : IntKind.i64.wrap ((wd : Int) - un) = (wd : Int) - un := by rw [IntKind.wrap_i64]; omega
        refine anyL_take (i := 5) (v := ?vb5) rfl (by kernel_rfl) (by kernel_rfl) (by kernel_rfl) (by kernel_rfl) (fun _ _ _ h => h) (Or.inl ⟨by rfl, ?gvb5⟩) (unhide HS0) ?_
        case gvb5 => (intro w hSw; (try dsimp only at hSw); go_simp) <;> with_reducible rfl
        simp only [Act.put, List.getElem_toArray, List.getElem_cons_zero, List.getElem_cons_succ, List.setIfInBounds_toArray, List.set_cons_zero, List.set_cons_succ]
        refine anyL_take (i := 6) (v := ?vb6) rfl (by kernel_rfl) (by kernel_rfl) (by kernel_rfl) (by kernel_rfl) (fun _ _ _ h => h) (Or.inl ⟨by rfl, ?gvb6⟩) (unhide HS0) ?_
        case gvb6 => (intro w hSw; (try dsimp only at hSw); go_simp) <;> with_reducible rfl
        simp only [Act.put, List.getElem_toArray, List.getElem_cons_zero, List.getElem_cons_succ, List.setIfInBounds_toArray, List.set_cons_zero, List.set_cons_succ]
        refine anyL_ready (rs := [7]) (by kernel_rfl) (by simp) ?_
        refine AllL.cons rfl (fun K hK => ?_) AllL.nil
        go_simp
        refine unhide hK _ _ (fun h => absurd h (by decide)) ?_
        clear hK K
        refine anyL_done (by kernel_rfl) ?_ _
        have x9 := box4_2 x7' (.int .i64 ((wd : Int) - un))
        have bb9 : Below w.heap.size w (w8.setCell ⟨gl, 2, none⟩ (.int .i64 ((wd : Int) - un))) := bb7'.setCell (p := ⟨gl, 2, none⟩) (by show _ ≤ gl; omega) _
        have g9 : (w8.setCell ⟨gl, 2, none⟩ (.int .i64 ((wd : Int) - un))).heap[w.heap.size]? = _ := (set_other w8 _ (by omega)).trans g7'
        generalize (w8.setCell ⟨gl, 2, none⟩ (.int .i64 ((wd : Int) - un))) = w9 at *
        clear bb7' x7' y7' g7' c72 f72 HS0 hwr
        obtain ⟨l0, l1, l2, l3, _⟩ := cells4 x9
        obtain ⟨r0, r1, r2, r3, fr⟩ := cells4 g9
        have fr0 := fr 0
        have fr1 := fr 1
        have fr2 := fr 2
        have fr3 := fr 3
        have xf := box4_all g9 (.int .i64 0) (.int .i64 ((wd : Int) - 1)) (.int .i64 ((wd : Int) - un)) (.int .i64 0)
        have bf := below4 bb9 (Nat.le_refl _) (.int .i64 0) (.int .i64 ((wd : Int) - 1)) (.int .i64 ((wd : Int) - un)) (.int .i64 0)
        clear fr x9 g9
        go_wp2_with fail
        clear l0 l1 l2 l3 r0 r1 r2 r3 fr0 fr1 fr2 fr3
        generalize ((((w9.setCell ⟨w.heap.size, 0, none⟩ (.int .i64 0)).setCell ⟨w.heap.size, 1, none⟩ (.int .i64 ((wd : Int) - 1))).setCell ⟨w.heap.size, 2, none⟩ (.int .i64 ((wd : Int) - un))).setCell ⟨w.heap.size, 3, none⟩ (.int .i64 0)) = wf at *
        obtain ⟨q0, q1, q2, q3, _⟩ := cells4 xf
        refine bodyPost_ret (v := .agg #[.int .i64 0, .int .i64 ((wd : Int) - 1), .int .i64 ((wd : Int) - un), .int .i64 0]) (by simp [results, Tryz.results148, go_sem, q0, q1, q2, q3]) rfl ⟨by rw [unhide HSR, unhide HSU, unhide HSE]; rfl, bf⟩
      · have hin' : inside x c = false := by simpa using hin
        have hsr : seamR x c = 0 := by unfold seamR; rw [hin']; rfl
        have hsu : seamU x c = 0 := by unfold seamU; rw [hin']; rfl
        have hfp := flr_eq hin'
        have HSR := hide hsr
        have HSU := hide hsu
        rw [hfp]
        obtain ⟨l0, l1, l2, l3, _⟩ := cells4 x4
        obtain ⟨r0, r1, r2, r3, fr⟩ := cells4 g4
        have fr0 := fr 0
        have fr1 := fr 1
        have fr2 := fr 2
        have fr3 := fr 3
        have xf := box4_all g4 (.int .i64 0) (.int .i64 0) (.int .i64 0) (.int .i64 0)
        have bf := below4 bb4 (Nat.le_refl _) (.int .i64 0) (.int .i64 0) (.int .i64 0) (.int .i64 0)
        clear fr x4 g4 hfp hsr hsu hin hin'
        go_wp2_with fail
        clear l0 l1 l2 l3 r0 r1 r2 r3 fr0 fr1 fr2 fr3
        generalize ((((w4.setCell ⟨w.heap.size, 0, none⟩ (.int .i64 0)).setCell ⟨w.heap.size, 1, none⟩ (.int .i64 0)).setCell ⟨w.heap.size, 2, none⟩ (.int .i64 0)).setCell ⟨w.heap.size, 3, none⟩ (.int .i64 0)) = wf at *
        obtain ⟨q0, q1, q2, q3, _⟩ := cells4 xf
        refine bodyPost_ret (v := .agg #[.int .i64 0, .int .i64 0, .int .i64 0, .int .i64 0]) (by simp [results, Tryz.results148, go_sem, q0, q1, q2, q3]) rfl ⟨by rw [unhide HSR, unhide HSU, unhide HSE]; rfl, bf⟩
    · have hdr := (unhide HIE).1.dropW (n := p)
      rw [if_neg hcp] at hdr
      simp only [Option.map_some, Addr.add_lit, Nat.zero_add] at hdr
      have hdF := hide (hdr.below (unhide B5) (Nat.le_refl _))
      have HDL : Hid (x.length - p = (x.drop p).length) := hide (by simp)
      have HIF := hide ((unhide HIE).below (unhide B5) (Nat.le_refl _))
      clear hdr
      go_wp2_with fail
      clear hcv
      have zz5 := unhide Z5
      have b5 := unhide B5
      have i5 := unhide I5
      have h13 := unhide H13
      have bbF := bbE.trans (b5.mono bbE.size)
      have xF := (b5.block gl zE).trans xE
      have gF := (b5.block w.heap.size zEw).trans gE
      clear Z5 B5 I5 H13
      generalize (wE'.alloc (.cells #[.int .u8 10] 5 (1, 2))) = wF at *
      have zF : gl < wF.heap.size := by omega
      have zFw : w.heap.size < wF.heap.size := by omega
      cases h10 : decide (t.head? = some 10) with
      | false =>
        have HSE : Hid (seamE s t = 0) := hide (by unfold seamE; rw [if_neg (fun h => by rw [decide_eq_true h.2] at h10; cases h10)])
        refine (HasPre_at (v := false) (some ⟨gx, p, none⟩) (c - p) (x.length - p) (x.drop p) wE'.heap.size 10 wF (unhide HDL) (unhide hdF) (by decide) i5 (by rw [← unhide HTX]; exact h10)).mono ?_
        rintro y wF' ⟨rfl, rfl⟩
        dsimp only
        clear bbE xE gE HIE zE zEw b5 i5 h13 h10 hdF
        obtain ⟨bbE, xE, gE, zE, zEw⟩ := And.intro bbF (And.intro xF (And.intro gF (And.intro zF zFw)))
        have HIE := HIF
        clear bbF xF gF zF zFw HIF
        generalize wF' = wE at *
        have hfv : floorV x (p : Int) = .tuple #[.int .i64 (flr x p : Nat), .int .i64 0] := by unfold floorV; rw [if_neg (by omega)]; simp
        have HFL := hide (Floor_at (some ⟨gx, 0, none⟩) c (p : Int) x wE (unhide HIE).1 (hW.below bbE).1)
        rw [hfv] at HFL
        clear hfv
        have HPL := hide hpl
        clear hpl
        try dsimp only
        go_wp2_with fail
        refine (unhide HFL).mono ?_
        rintro y w4 ⟨rfl, b4⟩
        clear HFL
        dsimp only
        have z4 := b4.size
        have bb4 := bbE.trans (b4.mono bbE.size)
        have x4 := (b4.block gl zE).trans xE
        have g4 := (b4.block w.heap.size zEw).trans gE
        have zw4 : w.heap.size < w4.heap.size := by omega
        have zl4 : gl < w4.heap.size := by omega
        by_cases hin : inside x p = true
        · have hfo := flr_wid hin
          have hfe := flr_edge x p
          have hsr : seamR x p = (wid (x.drop (flr x p)) : Int) - 1 := by unfold seamR; rw [if_pos hin]
          have hsu : seamU x p = (wid (x.drop (flr x p)) : Int) - uni1 (first (x.drop (flr x p))).1 := by unfold seamU; rw [if_pos hin]
          have hav : atV x ((flr x p : Nat) : Int) = .tuple #[stp (x.drop (flr x p)), .int .i64 0] := by
            unfold atV
            rw [if_neg (by have := unhide HPL; omega), Int.toNat_natCast, if_neg (by rw [hfe]; decide)]
          have HAT := hide (At_at (some ⟨gx, 0, none⟩) c ((flr x p : Nat) : Int) x w4 ((unhide HIE).1.below b4 (Nat.le_refl _)) (hW.below bb4).1)
          rw [hav] at HAT
          have HSR := hide hsr
          have HSU := hide hsu
          unfold stp stepV at HAT
          have hfne : ¬ ((flr x p : Nat) : Int) = (p : Int) := by omega
          have hfne2 : ¬ flr x p = p := by omega
          have hwl : wid (x.drop (flr x p)) ≤ 4 := wid_four _
          have hw0 : 1 ≤ wid (x.drop (flr x p)) := by omega
          clear hav hsr hsu hfe hfo
          generalize flr x p = f at *
          generalize wid (x.drop f) = wd at *
          have hun := uni1_in (first (x.drop f)).1
          generalize (first (x.drop f)).1 = rn at *
          generalize whl (x.drop f) = wh at *
          go_wp2_with fail
          refine (unhide HAT).mono ?_
          rintro y w5 ⟨rfl, b5⟩
          clear HAT
          dsimp only
          have z5 := b5.size
          have bb5 := bb4.trans (b5.mono bb4.size)
          have x5 := (b5.block gl zl4).trans x4
          have g5 := (b5.block w.heap.size zw4).trans g4
          have b6 : Below w5.heap.size w5 (w5.alloc (.cells #[.int .i32 rn, .int .i64 (wd : Int), .bool wh] 82)) := (Below.refl _ _).alloc (Nat.le_refl _) _
          have y6 := push_get w5 (.cells #[.int .i32 rn, .int .i64 (wd : Int), .bool wh] 82)
          have z6 : w5.heap.size < (w5.alloc (.cells #[.int .i32 rn, .int .i64 (wd : Int), .bool wh] 82)).heap.size := by simp
          go_upto_region 9 with fail
          have bb6 := bb5.trans (b6.mono bb5.size)
          have x6 := (b6.block gl (by omega)).trans x5
          have g6 := (b6.block w.heap.size (by omega)).trans g5
          generalize (w5.alloc (.cells #[.int .i32 rn, .int .i64 (wd : Int), .bool wh] 82)) = w6 at *
          have hgs : gl < w5.heap.size := by omega
          have hws : w.heap.size < w5.heap.size := by omega
          generalize w5.heap.size = gs at *
          obtain ⟨y0, y1, _⟩ := cells3 y6
          obtain ⟨_, c61, _, _, f6⟩ := cells4 x6
          have f61 := f6 1
          have x7 := box4_1 x6 (.int .i64 ((wd : Int) - 1))
          have bb7 : Below w.heap.size w (w6.setCell ⟨gl, 1, none⟩ (.int .i64 ((wd : Int) - 1))) := bb6.setCell (p := ⟨gl, 1, none⟩) (by show _ ≤ gl; omega) _
          have y7 : (w6.setCell ⟨gl, 1, none⟩ (.int .i64 ((wd : Int) - 1))).heap[gs]? = _ := (set_other w6 _ (by omega)).trans y6
          have g7 : (w6.setCell ⟨gl, 1, none⟩ (.int .i64 ((wd : Int) - 1))).heap[w.heap.size]? = _ := (set_other w6 _ (by omega)).trans g6
          clear f6
          go_upto_region 10 with fail
          clear y0 y1 c61 f61 x6 g6 y6 bb6
          have bb7' : Below w.heap.size w (w6.setCell ⟨gl, 1, none⟩ (.int .i64 ((wd : Int) - 1))).drew := Below.drewN bb7 1
          have x7' : (w6.setCell ⟨gl, 1, none⟩ (.int .i64 ((wd : Int) - 1))).drew.heap[gl]? = _ := x7
          have y7' : (w6.setCell ⟨gl, 1, none⟩ (.int .i64 ((wd : Int) - 1))).drew.heap[gs]? = _ := y7
          have g7' : (w6.setCell ⟨gl, 1, none⟩ (.int .i64 ((wd : Int) - 1))).drew.heap[w.heap.size]? = _ := g7
          obtain ⟨y0, y1, _⟩ := cells3 y7'
          obtain ⟨_, _, c72, _, f7⟩ := cells4 x7'
          have f72 := f7 2
          have HS0 : Hid ((w6.setCell ⟨gl, 1, none⟩ (.int .i64 ((wd : Int) - 1))).drew.cell? ⟨gs, 0, none⟩ = some (.int .i32 rn) ∧ (w6.setCell ⟨gl, 1, none⟩ (.int .i64 ((wd : Int) - 1))).drew.cell? ⟨gs, 1, none⟩ = some (.int .i64 (wd : Int))) := hide ⟨y0, y1⟩
          clear bb7 x7 y7 g7 y0 y1 f7
          refine regionL (S := fun w' => w'.cell? ⟨gs, 0, none⟩ = some (.int .i32 rn) ∧ w'.cell? ⟨gs, 1, none⟩ = some (.int .i64 (wd : Int))) (fun i => i == 7) (by kernel_rfl) ?_
          generalize (w6.setCell ⟨gl, 1, none⟩ (.int .i64 ((wd : Int) - 1))).drew = w7 at *
          refine anyL_take (i := 0) (v := ?vc0) rfl (by kernel_rfl) (by kernel_rfl) (by kernel_rfl) (by kernel_rfl) (fun _ _ _ h => h) (Or.inl ⟨by rfl, ?gvc0⟩) (unhide HS0) ?_
          case gvc0 => (intro w hSw; (try dsimp only at hSw); go_simp) <;> with_reducible rfl
          simp only [Act.put, List.getElem_toArray, List.getElem_cons_zero, List.setIfInBounds_toArray, List.set_cons_zero, List.set_cons_succ]
          refine anyL_take (i := 1) (v := ?vc1) rfl (by kernel_rfl) (by kernel_rfl) (by kernel_rfl) (by kernel_rfl) (fun _ _ _ h => h) (Or.inl ⟨by rfl, ?gvc1⟩) (unhide HS0) ?_
          case gvc1 => (intro w hSw; (try dsimp only at hSw); go_simp) <;> with_reducible rfl
          simp only [Act.put, List.getElem_toArray, List.getElem_cons_zero, List.getElem_cons_succ, List.setIfInBounds_toArray, List.set_cons_zero, List.set_cons_succ]
          refine anyL_take (i := 2) (v := ?vc2) rfl (by kernel_rfl) (by kernel_rfl) (by kernel_rfl) (by kernel_rfl) (fun _ _ _ h => h) (Or.inl ⟨by rfl, ?gvc2⟩) (unhide HS0) ?_
          case gvc2 => (intro w hSw; (try dsimp only at hSw); go_simp) <;> with_reducible rfl
          simp only [Act.put, List.getElem_toArray, List.getElem_cons_zero, List.getElem_cons_succ, List.setIfInBounds_toArray, List.set_cons_zero, List.set_cons_succ]
          refine anyL_take (i := 3) (v := ?vc3) rfl (by kernel_rfl) (by kernel_rfl) (by kernel_rfl) (by kernel_rfl) (fun _ _ _ h => h) (Or.inl ⟨by rfl, ?gvc3⟩) (unhide HS0) ?_
          case gvc3 => (intro w hSw; (try dsimp only at hSw); go_simp) <;> with_reducible rfl
          simp only [Act.put, List.getElem_toArray, List.getElem_cons_zero, List.getElem_cons_succ, List.setIfInBounds_toArray, List.set_cons_zero, List.set_cons_succ]
          refine anyL_ready (rs := [4]) (by kernel_rfl) (by simp) ?_
          refine AllL.cons rfl (fun K hK => ?_) AllL.nil
          go_simp
          refine (unitsOf_at rn w7).mono ?_
          rintro y w8 ⟨rfl, rfl⟩
          try dsimp only
          refine unhide hK _ _ (fun _ => unhide HS0) ?_
          clear hK K
          generalize uni1 rn = un at *
          have hwr : IntKind.i64.wrap ((wd : Int) - un) = (wd : Int) - un := by rw [IntKind.wrap_i64]; omega
          refine anyL_take (i := 5) (v := ?vc5) rfl (by kernel_rfl) (by kernel_rfl) (by kernel_rfl) (by kernel_rfl) (fun _ _ _ h => h) (Or.inl ⟨by rfl, ?gvc5⟩) (unhide HS0) ?_
          case gvc5 => (intro w hSw; (try dsimp only at hSw); go_simp) <;> with_reducible rfl
          simp only [Act.put, List.getElem_toArray, List.getElem_cons_zero, List.getElem_cons_succ, List.setIfInBounds_toArray, List.set_cons_zero, List.set_cons_succ]
          refine anyL_take (i := 6) (v := ?vc6) rfl (by kernel_rfl) (by kernel_rfl) (by kernel_rfl) (by kernel_rfl) (fun _ _ _ h => h) (Or.inl ⟨by rfl, ?gvc6⟩) (unhide HS0) ?_
          case gvc6 => (intro w hSw; (try dsimp only at hSw); go_simp) <;> with_reducible rfl
          simp only [Act.put, List.getElem_toArray, List.getElem_cons_zero, List.getElem_cons_succ, List.setIfInBounds_toArray, List.set_cons_zero, List.set_cons_succ]
          refine anyL_ready (rs := [7]) (by kernel_rfl) (by simp) ?_
          refine AllL.cons rfl (fun K hK => ?_) AllL.nil
          go_simp
          refine unhide hK _ _ (fun h => absurd h (by decide)) ?_
          clear hK K
          refine anyL_done (by kernel_rfl) ?_ _
          have x9 := box4_2 x7' (.int .i64 ((wd : Int) - un))
          have bb9 : Below w.heap.size w (w8.setCell ⟨gl, 2, none⟩ (.int .i64 ((wd : Int) - un))) := bb7'.setCell (p := ⟨gl, 2, none⟩) (by show _ ≤ gl; omega) _
          have g9 : (w8.setCell ⟨gl, 2, none⟩ (.int .i64 ((wd : Int) - un))).heap[w.heap.size]? = _ := (set_other w8 _ (by omega)).trans g7'
          generalize (w8.setCell ⟨gl, 2, none⟩ (.int .i64 ((wd : Int) - un))) = w9 at *
          clear bb7' x7' y7' g7' c72 f72 HS0 hwr
          obtain ⟨l0, l1, l2, l3, _⟩ := cells4 x9
          obtain ⟨r0, r1, r2, r3, fr⟩ := cells4 g9
          have fr0 := fr 0
          have fr1 := fr 1
          have fr2 := fr 2
          have fr3 := fr 3
          have xf := box4_all g9 (.int .i64 0) (.int .i64 ((wd : Int) - 1)) (.int .i64 ((wd : Int) - un)) (.int .i64 0)
          have bf := below4 bb9 (Nat.le_refl _) (.int .i64 0) (.int .i64 ((wd : Int) - 1)) (.int .i64 ((wd : Int) - un)) (.int .i64 0)
          clear fr x9 g9
          go_wp2_with fail
          clear l0 l1 l2 l3 r0 r1 r2 r3 fr0 fr1 fr2 fr3
          generalize ((((w9.setCell ⟨w.heap.size, 0, none⟩ (.int .i64 0)).setCell ⟨w.heap.size, 1, none⟩ (.int .i64 ((wd : Int) - 1))).setCell ⟨w.heap.size, 2, none⟩ (.int .i64 ((wd : Int) - un))).setCell ⟨w.heap.size, 3, none⟩ (.int .i64 0)) = wf at *
          obtain ⟨q0, q1, q2, q3, _⟩ := cells4 xf
          refine bodyPost_ret (v := .agg #[.int .i64 0, .int .i64 ((wd : Int) - 1), .int .i64 ((wd : Int) - un), .int .i64 0]) (by simp [results, Tryz.results148, go_sem, q0, q1, q2, q3]) rfl ⟨by rw [unhide HSR, unhide HSU, unhide HSE]; rfl, bf⟩
        · have hin' : inside x p = false := by simpa using hin
          have hsr : seamR x p = 0 := by unfold seamR; rw [hin']; rfl
          have hsu : seamU x p = 0 := by unfold seamU; rw [hin']; rfl
          have hfp := flr_eq hin'
          have HSR := hide hsr
          have HSU := hide hsu
          rw [hfp]
          obtain ⟨l0, l1, l2, l3, _⟩ := cells4 x4
          obtain ⟨r0, r1, r2, r3, fr⟩ := cells4 g4
          have fr0 := fr 0
          have fr1 := fr 1
          have fr2 := fr 2
          have fr3 := fr 3
          have xf := box4_all g4 (.int .i64 0) (.int .i64 0) (.int .i64 0) (.int .i64 0)
          have bf := below4 bb4 (Nat.le_refl _) (.int .i64 0) (.int .i64 0) (.int .i64 0) (.int .i64 0)
          clear fr x4 g4 hfp hsr hsu hin hin'
          go_wp2_with fail
          clear l0 l1 l2 l3 r0 r1 r2 r3 fr0 fr1 fr2 fr3
          generalize ((((w4.setCell ⟨w.heap.size, 0, none⟩ (.int .i64 0)).setCell ⟨w.heap.size, 1, none⟩ (.int .i64 0)).setCell ⟨w.heap.size, 2, none⟩ (.int .i64 0)).setCell ⟨w.heap.size, 3, none⟩ (.int .i64 0)) = wf at *
          obtain ⟨q0, q1, q2, q3, _⟩ := cells4 xf
          refine bodyPost_ret (v := .agg #[.int .i64 0, .int .i64 0, .int .i64 0, .int .i64 0]) (by simp [results, Tryz.results148, go_sem, q0, q1, q2, q3]) rfl ⟨by rw [unhide HSR, unhide HSU, unhide HSE]; rfl, bf⟩
      | true =>
        have HSE : Hid (seamE s t = 1) := hide (by unfold seamE; rw [if_pos ⟨of_decide_eq_true h13, of_decide_eq_true h10⟩])
        refine (HasPre_at (v := true) (some ⟨gx, p, none⟩) (c - p) (x.length - p) (x.drop p) wE'.heap.size 10 wF (unhide HDL) (unhide hdF) (by decide) i5 (by rw [← unhide HTX]; exact h10)).mono ?_
        rintro y wF' ⟨rfl, rfl⟩
        dsimp only
        obtain ⟨_, _, _, k3, kf⟩ := cells4 xF
        have kf3 := kf 3
        clear kf
        go_upto_region 5 with fail
        have sc3 := heap_setCell_same wF' gl 3 _ _ (.int .i64 1) xF
        have bbG : Below w.heap.size w (wF'.setCell ⟨gl, 3, none⟩ (.int .i64 1)) := bbF.setCell (p := ⟨gl, 3, none⟩) (by show _ ≤ gl; omega) _
        have gG : (wF'.setCell ⟨gl, 3, none⟩ (.int .i64 1)).heap[w.heap.size]? = _ := (set_other wF' _ hwl.2).trans gF
        have zG : (wF'.setCell ⟨gl, 3, none⟩ (.int .i64 1)).heap.size = wF'.heap.size := by simp [World.setCell]
        have HIG : Hid (IsN (wF'.setCell ⟨gl, 3, none⟩ (.int .i64 1)) (some ⟨gx, 0, none⟩) c x) := hide (isN_set (unhide HIF) (by omega))
        have xG : (wF'.setCell ⟨gl, 3, none⟩ (.int .i64 1)).heap[gl]? = some (.cells #[.int .i64 0, .int .i64 0, .int .i64 0, .int .i64 1] 45 (0, 0)) := sc3
        have zF1 : gl < (wF'.setCell ⟨gl, 3, none⟩ (.int .i64 1)).heap.size := by omega
        have zF2 : w.heap.size < (wF'.setCell ⟨gl, 3, none⟩ (.int .i64 1)).heap.size := by omega
        clear bbE xE gE HIE zE zEw b5 i5 h13 h10 hdF sc3 bbF xF gF zF zFw HIF k3 kf3 zG
        obtain ⟨bbE, xE, gE, zE, zEw⟩ := And.intro bbG (And.intro xG (And.intro gG (And.intro zF1 zF2)))
        have HIE := HIG
        clear bbG xG gG zF1 zF2 HIG
        generalize (wF'.setCell ⟨gl, 3, none⟩ (.int .i64 1)) = wE at *
        have hfv : floorV x (p : Int) = .tuple #[.int .i64 (flr x p : Nat), .int .i64 0] := by unfold floorV; rw [if_neg (by omega)]; simp
        have HFL := hide (Floor_at (some ⟨gx, 0, none⟩) c (p : Int) x wE (unhide HIE).1 (hW.below bbE).1)
        rw [hfv] at HFL
        clear hfv
        have HPL := hide hpl
        clear hpl
        try dsimp only
        go_wp2_with fail
        refine (unhide HFL).mono ?_
        rintro y w4 ⟨rfl, b4⟩
        clear HFL
        dsimp only
        have z4 := b4.size
        have bb4 := bbE.trans (b4.mono bbE.size)
        have x4 := (b4.block gl zE).trans xE
        have g4 := (b4.block w.heap.size zEw).trans gE
        have zw4 : w.heap.size < w4.heap.size := by omega
        have zl4 : gl < w4.heap.size := by omega
        by_cases hin : inside x p = true
        · have hfo := flr_wid hin
          have hfe := flr_edge x p
          have hsr : seamR x p = (wid (x.drop (flr x p)) : Int) - 1 := by unfold seamR; rw [if_pos hin]
          have hsu : seamU x p = (wid (x.drop (flr x p)) : Int) - uni1 (first (x.drop (flr x p))).1 := by unfold seamU; rw [if_pos hin]
          have hav : atV x ((flr x p : Nat) : Int) = .tuple #[stp (x.drop (flr x p)), .int .i64 0] := by
            unfold atV
            rw [if_neg (by have := unhide HPL; omega), Int.toNat_natCast, if_neg (by rw [hfe]; decide)]
          have HAT := hide (At_at (some ⟨gx, 0, none⟩) c ((flr x p : Nat) : Int) x w4 ((unhide HIE).1.below b4 (Nat.le_refl _)) (hW.below bb4).1)
          rw [hav] at HAT
          have HSR := hide hsr
          have HSU := hide hsu
          unfold stp stepV at HAT
          have hfne : ¬ ((flr x p : Nat) : Int) = (p : Int) := by omega
          have hfne2 : ¬ flr x p = p := by omega
          have hwl : wid (x.drop (flr x p)) ≤ 4 := wid_four _
          have hw0 : 1 ≤ wid (x.drop (flr x p)) := by omega
          clear hav hsr hsu hfe hfo
          generalize flr x p = f at *
          generalize wid (x.drop f) = wd at *
          have hun := uni1_in (first (x.drop f)).1
          generalize (first (x.drop f)).1 = rn at *
          generalize whl (x.drop f) = wh at *
          go_wp2_with fail
          refine (unhide HAT).mono ?_
          rintro y w5 ⟨rfl, b5⟩
          clear HAT
          dsimp only
          have z5 := b5.size
          have bb5 := bb4.trans (b5.mono bb4.size)
          have x5 := (b5.block gl zl4).trans x4
          have g5 := (b5.block w.heap.size zw4).trans g4
          have b6 : Below w5.heap.size w5 (w5.alloc (.cells #[.int .i32 rn, .int .i64 (wd : Int), .bool wh] 82)) := (Below.refl _ _).alloc (Nat.le_refl _) _
          have y6 := push_get w5 (.cells #[.int .i32 rn, .int .i64 (wd : Int), .bool wh] 82)
          have z6 : w5.heap.size < (w5.alloc (.cells #[.int .i32 rn, .int .i64 (wd : Int), .bool wh] 82)).heap.size := by simp
          go_upto_region 9 with fail
          have bb6 := bb5.trans (b6.mono bb5.size)
          have x6 := (b6.block gl (by omega)).trans x5
          have g6 := (b6.block w.heap.size (by omega)).trans g5
          generalize (w5.alloc (.cells #[.int .i32 rn, .int .i64 (wd : Int), .bool wh] 82)) = w6 at *
          have hgs : gl < w5.heap.size := by omega
          have hws : w.heap.size < w5.heap.size := by omega
          generalize w5.heap.size = gs at *
          obtain ⟨y0, y1, _⟩ := cells3 y6
          obtain ⟨_, c61, _, _, f6⟩ := cells4 x6
          have f61 := f6 1
          have x7 := box4_1 x6 (.int .i64 ((wd : Int) - 1))
          have bb7 : Below w.heap.size w (w6.setCell ⟨gl, 1, none⟩ (.int .i64 ((wd : Int) - 1))) := bb6.setCell (p := ⟨gl, 1, none⟩) (by show _ ≤ gl; omega) _
          have y7 : (w6.setCell ⟨gl, 1, none⟩ (.int .i64 ((wd : Int) - 1))).heap[gs]? = _ := (set_other w6 _ (by omega)).trans y6
          have g7 : (w6.setCell ⟨gl, 1, none⟩ (.int .i64 ((wd : Int) - 1))).heap[w.heap.size]? = _ := (set_other w6 _ (by omega)).trans g6
          clear f6
          go_upto_region 10 with fail
          clear y0 y1 c61 f61 x6 g6 y6 bb6
          have bb7' : Below w.heap.size w (w6.setCell ⟨gl, 1, none⟩ (.int .i64 ((wd : Int) - 1))).drew := Below.drewN bb7 1
          have x7' : (w6.setCell ⟨gl, 1, none⟩ (.int .i64 ((wd : Int) - 1))).drew.heap[gl]? = _ := x7
          have y7' : (w6.setCell ⟨gl, 1, none⟩ (.int .i64 ((wd : Int) - 1))).drew.heap[gs]? = _ := y7
          have g7' : (w6.setCell ⟨gl, 1, none⟩ (.int .i64 ((wd : Int) - 1))).drew.heap[w.heap.size]? = _ := g7
          obtain ⟨y0, y1, _⟩ := cells3 y7'
          obtain ⟨_, _, c72, _, f7⟩ := cells4 x7'
          have f72 := f7 2
          have HS0 : Hid ((w6.setCell ⟨gl, 1, none⟩ (.int .i64 ((wd : Int) - 1))).drew.cell? ⟨gs, 0, none⟩ = some (.int .i32 rn) ∧ (w6.setCell ⟨gl, 1, none⟩ (.int .i64 ((wd : Int) - 1))).drew.cell? ⟨gs, 1, none⟩ = some (.int .i64 (wd : Int))) := hide ⟨y0, y1⟩
          clear bb7 x7 y7 g7 y0 y1 f7
          refine regionL (S := fun w' => w'.cell? ⟨gs, 0, none⟩ = some (.int .i32 rn) ∧ w'.cell? ⟨gs, 1, none⟩ = some (.int .i64 (wd : Int))) (fun i => i == 7) (by kernel_rfl) ?_
          generalize (w6.setCell ⟨gl, 1, none⟩ (.int .i64 ((wd : Int) - 1))).drew = w7 at *
          refine anyL_take (i := 0) (v := ?vd0) rfl (by kernel_rfl) (by kernel_rfl) (by kernel_rfl) (by kernel_rfl) (fun _ _ _ h => h) (Or.inl ⟨by rfl, ?gvd0⟩) (unhide HS0) ?_
          case gvd0 => (intro w hSw; (try dsimp only at hSw); go_simp) <;> with_reducible rfl
          simp only [Act.put, List.getElem_toArray, List.getElem_cons_zero, List.setIfInBounds_toArray, List.set_cons_zero, List.set_cons_succ]
          refine anyL_take (i := 1) (v := ?vd1) rfl (by kernel_rfl) (by kernel_rfl) (by kernel_rfl) (by kernel_rfl) (fun _ _ _ h => h) (Or.inl ⟨by rfl, ?gvd1⟩) (unhide HS0) ?_
          case gvd1 => (intro w hSw; (try dsimp only at hSw); go_simp) <;> with_reducible rfl
          simp only [Act.put, List.getElem_toArray, List.getElem_cons_zero, List.getElem_cons_succ, List.setIfInBounds_toArray, List.set_cons_zero, List.set_cons_succ]
          refine anyL_take (i := 2) (v := ?vd2) rfl (by kernel_rfl) (by kernel_rfl) (by kernel_rfl) (by kernel_rfl) (fun _ _ _ h => h) (Or.inl ⟨by rfl, ?gvd2⟩) (unhide HS0) ?_
          case gvd2 => (intro w hSw; (try dsimp only at hSw); go_simp) <;> with_reducible rfl
          simp only [Act.put, List.getElem_toArray, List.getElem_cons_zero, List.getElem_cons_succ, List.setIfInBounds_toArray, List.set_cons_zero, List.set_cons_succ]
          refine anyL_take (i := 3) (v := ?vd3) rfl (by kernel_rfl) (by kernel_rfl) (by kernel_rfl) (by kernel_rfl) (fun _ _ _ h => h) (Or.inl ⟨by rfl, ?gvd3⟩) (unhide HS0) ?_
          case gvd3 => (intro w hSw; (try dsimp only at hSw); go_simp) <;> with_reducible rfl
          simp only [Act.put, List.getElem_toArray, List.getElem_cons_zero, List.getElem_cons_succ, List.setIfInBounds_toArray, List.set_cons_zero, List.set_cons_succ]
          refine anyL_ready (rs := [4]) (by kernel_rfl) (by simp) ?_
          refine AllL.cons rfl (fun K hK => ?_) AllL.nil
          go_simp
          refine (unitsOf_at rn w7).mono ?_
          rintro y w8 ⟨rfl, rfl⟩
          try dsimp only
          refine unhide hK _ _ (fun _ => unhide HS0) ?_
          clear hK K
          generalize uni1 rn = un at *
          have hwr : IntKind.i64.wrap ((wd : Int) - un) = (wd : Int) - un := by rw [IntKind.wrap_i64]; omega
          refine anyL_take (i := 5) (v := ?vd5) rfl (by kernel_rfl) (by kernel_rfl) (by kernel_rfl) (by kernel_rfl) (fun _ _ _ h => h) (Or.inl ⟨by rfl, ?gvd5⟩) (unhide HS0) ?_
          case gvd5 => (intro w hSw; (try dsimp only at hSw); go_simp) <;> with_reducible rfl
          simp only [Act.put, List.getElem_toArray, List.getElem_cons_zero, List.getElem_cons_succ, List.setIfInBounds_toArray, List.set_cons_zero, List.set_cons_succ]
          refine anyL_take (i := 6) (v := ?vd6) rfl (by kernel_rfl) (by kernel_rfl) (by kernel_rfl) (by kernel_rfl) (fun _ _ _ h => h) (Or.inl ⟨by rfl, ?gvd6⟩) (unhide HS0) ?_
          case gvd6 => (intro w hSw; (try dsimp only at hSw); go_simp) <;> with_reducible rfl
          simp only [Act.put, List.getElem_toArray, List.getElem_cons_zero, List.getElem_cons_succ, List.setIfInBounds_toArray, List.set_cons_zero, List.set_cons_succ]
          refine anyL_ready (rs := [7]) (by kernel_rfl) (by simp) ?_
          refine AllL.cons rfl (fun K hK => ?_) AllL.nil
          go_simp
          refine unhide hK _ _ (fun h => absurd h (by decide)) ?_
          clear hK K
          refine anyL_done (by kernel_rfl) ?_ _
          have x9 := box4_2 x7' (.int .i64 ((wd : Int) - un))
          have bb9 : Below w.heap.size w (w8.setCell ⟨gl, 2, none⟩ (.int .i64 ((wd : Int) - un))) := bb7'.setCell (p := ⟨gl, 2, none⟩) (by show _ ≤ gl; omega) _
          have g9 : (w8.setCell ⟨gl, 2, none⟩ (.int .i64 ((wd : Int) - un))).heap[w.heap.size]? = _ := (set_other w8 _ (by omega)).trans g7'
          generalize (w8.setCell ⟨gl, 2, none⟩ (.int .i64 ((wd : Int) - un))) = w9 at *
          clear bb7' x7' y7' g7' c72 f72 HS0 hwr
          obtain ⟨l0, l1, l2, l3, _⟩ := cells4 x9
          obtain ⟨r0, r1, r2, r3, fr⟩ := cells4 g9
          have fr0 := fr 0
          have fr1 := fr 1
          have fr2 := fr 2
          have fr3 := fr 3
          have xf := box4_all g9 (.int .i64 0) (.int .i64 ((wd : Int) - 1)) (.int .i64 ((wd : Int) - un)) (.int .i64 1)
          have bf := below4 bb9 (Nat.le_refl _) (.int .i64 0) (.int .i64 ((wd : Int) - 1)) (.int .i64 ((wd : Int) - un)) (.int .i64 1)
          clear fr x9 g9
          go_wp2_with fail
          clear l0 l1 l2 l3 r0 r1 r2 r3 fr0 fr1 fr2 fr3
          generalize ((((w9.setCell ⟨w.heap.size, 0, none⟩ (.int .i64 0)).setCell ⟨w.heap.size, 1, none⟩ (.int .i64 ((wd : Int) - 1))).setCell ⟨w.heap.size, 2, none⟩ (.int .i64 ((wd : Int) - un))).setCell ⟨w.heap.size, 3, none⟩ (.int .i64 1)) = wf at *
          obtain ⟨q0, q1, q2, q3, _⟩ := cells4 xf
          refine bodyPost_ret (v := .agg #[.int .i64 0, .int .i64 ((wd : Int) - 1), .int .i64 ((wd : Int) - un), .int .i64 1]) (by simp [results, Tryz.results148, go_sem, q0, q1, q2, q3]) rfl ⟨by rw [unhide HSR, unhide HSU, unhide HSE]; rfl, bf⟩
        · have hin' : inside x p = false := by simpa using hin
          have hsr : seamR x p = 0 := by unfold seamR; rw [hin']; rfl
          have hsu : seamU x p = 0 := by unfold seamU; rw [hin']; rfl
          have hfp := flr_eq hin'
          have HSR := hide hsr
          have HSU := hide hsu
          rw [hfp]
          obtain ⟨l0, l1, l2, l3, _⟩ := cells4 x4
          obtain ⟨r0, r1, r2, r3, fr⟩ := cells4 g4
          have fr0 := fr 0
          have fr1 := fr 1
          have fr2 := fr 2
          have fr3 := fr 3
          have xf := box4_all g4 (.int .i64 0) (.int .i64 0) (.int .i64 0) (.int .i64 1)
          have bf := below4 bb4 (Nat.le_refl _) (.int .i64 0) (.int .i64 0) (.int .i64 0) (.int .i64 1)
          clear fr x4 g4 hfp hsr hsu hin hin'
          go_wp2_with fail
          clear l0 l1 l2 l3 r0 r1 r2 r3 fr0 fr1 fr2 fr3
          generalize ((((w4.setCell ⟨w.heap.size, 0, none⟩ (.int .i64 0)).setCell ⟨w.heap.size, 1, none⟩ (.int .i64 0)).setCell ⟨w.heap.size, 2, none⟩ (.int .i64 0)).setCell ⟨w.heap.size, 3, none⟩ (.int .i64 1)) = wf at *
          obtain ⟨q0, q1, q2, q3, _⟩ := cells4 xf
          refine bodyPost_ret (v := .agg #[.int .i64 0, .int .i64 0, .int .i64 0, .int .i64 1]) (by simp [results, Tryz.results148, go_sem, q0, q1, q2, q3]) rfl ⟨by rw [unhide HSR, unhide HSU, unhide HSE]; rfl, bf⟩
end Go.Proofs.YteamaneompijkaaGreatDoor
