/- The walk of StepWalks, for arguments under the bound: it answers true wherever the table holds the classes, and changes nothing that was there. -/
import Derived.Test.YtffancemlpoebaaDoorTilesW
import Derived.Test.YtffancemlpoebaaDoorBak
import Derived.Test.YtffancemlpoebaaDoorRun
import Derived.Test.YtffancemlpoebaaDoorRf2T
import Derived.Test.YtffancemlpoebaaDoorRf2U
import Derived.Test.YtffancemlpoebaaDoorOwnR
namespace Go.Proofs.YtffancemlpoebaaDoor
open Go.ChangeShapes Go.WideShapes Go.ChangeAt Go.RowKit
attribute [local go_sem] Oper.semAt_some

theorem gone_allG (g : Nat) (l : List Int) (w : World) (hc : w.cell? ⟨g, 0, none⟩ = some (.string (strOfNums l))) (hg : g < w.heap.size) (hT : Tab w) (hb : ∀ x ∈ l, 0 ≤ x ∧ x ≤ 255) (hl : l.length ≤ 1048576) :
    Calls Tryd.prog 23 #[.func (.func 31) #[] #[.pointer (some ⟨g, 0, none⟩)]] w fun e w' =>
      ∃ a1 c1 a2 c2, e = .returned (.tuple #[.slice a1 (spots l 0).length c1, .slice a2 (spots l 0).length c2]) ∧ IntsAt w' a1 (spots l 0) ∧ StepsAt w' l a2 (spots l 0) ∧ Below w.heap.size w w' := by
  have := spots_le l
  refine (gone_at 31 _ l (spots l 0) w (enters_of Tryd.func31 (by kernel_rfl) rfl) (all_stops g w.heap.size l w hc hg (Nat.le_refl _) hT hT.size (by unfold maxLen; omega) hb) (by omega)).mono ?_
  rintro e w' ⟨vp, vs, rfl, hp, hv, hb⟩
  obtain ⟨a1, c1, rfl, h1, h2⟩ := ints_at hp
  obtain ⟨a2, c2, rfl, h3, h4⟩ := steps_at hv
  exact ⟨a1, c1, a2, c2, rfl, h2, h4, hb⟩
theorem gone_back (g : Nat) (l : List Int) (a0 : Option Addr) (cap : Nat) (w : World) (hc : w.cell? ⟨g, 0, none⟩ = some (.slice a0 l.length cap)) (hg : g < w.heap.size) (hT : Tab w) (hB : IsB w a0 cap l) (hl : l.length ≤ 1048576) :
    Calls Tryd.prog 23 #[.func (.func 39) #[] #[.pointer (some ⟨g, 0, none⟩)]] w fun e w' =>
      ∃ a1 c1 a2 c2, e = .returned (.tuple #[.slice a1 (spots l 0).length c1, .slice a2 (spots l 0).length c2]) ∧ IntsAt w' a1 (spots l 0).reverse ∧ StepsAt w' l a2 (spots l 0).reverse ∧ Below w.heap.size w w' := by
  have := spots_le l
  refine (gone_at 39 _ l (spots l 0).reverse w (enters_of Tryd.func39 (by kernel_rfl) rfl) (back_stops g w.heap.size l a0 cap w hc hg rfl hT hT.size hB) (by simp; omega)).mono ?_
  rintro e w' ⟨vp, vs, rfl, hp, hv, hb⟩
  obtain ⟨a1, c1, rfl, h1, h2⟩ := ints_at hp
  obtain ⟨a2, c2, rfl, h3, h4⟩ := steps_at hv
  exact ⟨a1, c1, a2, c2, by rw [List.length_reverse], h2, h4, hb⟩

theorem info_rune : ∃ i, Tryd.prog.info? 21 = some i ∧ i.zero = some (.int .i32 0) ∧ i.size = 1 ∧ i.bytes = 4 := by
  refine ⟨_, rfl, ?_, ?_, ?_⟩ <;> rfl
theorem push_rune (W : World) (B n : Nat) (v : Value) (xs : List Value) (x : Int) (ty : TypeId) (h : W.ownsRow B 21 1 v n xs) (hn : n ≤ 4194304) (hB : B ≤ W.heap.size) :
    ∃ g c W', (Builtin.append_ #[31, 31] ty #[v, .slice (some ⟨W.heap.size, 0, none⟩) 1 1]).run Tryd.prog (W.alloc (.cells #[.int .i32 x] 21)) = .ok (.slice (some ⟨g, 0, none⟩) (n + 1) c) W' ∧
      W'.ownsRow B 21 1 (.slice (some ⟨g, 0, none⟩) (n + 1) c) (n + 1) (xs ++ [.int .i32 x]) ∧ Below B W W' := by
  obtain ⟨i, hi, hz, hs, hby⟩ := info_rune
  have hr := World.ownsRow.alloc h (.cells #[.int .i32 x] 21)
  obtain ⟨g, c, W', hrun, ho, hg, _, _⟩ := run_append_lies (P := Tryd.prog) (W.alloc (.cells #[.int .i32 x] 21)) 31 ty B 21 i (.int .i32 0) 1 4 Tryd.underlying31 hi hz hs hby rfl (by decide)
    v n xs hr ⟨W.heap.size, 0, none⟩ 1 1 [.int .i32 x] rfl
    (fun j u hj => by
      cases j with
      | zero => simp at hj; subst hj; rw [Addr.add_lit]; exact (World.cell?_alloc_mark W _ _ (0, 0) 0).trans rfl
      | succ j => simp at hj)
    (fun u hu => by simp at hu; subst hu; rfl) (by decide) (by unfold maxLen; omega) (by omega) (by simp; omega) _ rfl
  exact ⟨g, c, W', hrun, ho, ((Below.refl B W).alloc hB _).grown hg (by simp; omega) (fun k hk => (hr.lt k hk).1)⟩
theorem runes_row {W : World} {B : Nat} {v : Value} {rs : List Int} (h : W.ownsRow B 21 1 v rs.length (rs.map (Value.int .i32))) : ∃ a cap, v = .slice a rs.length cap ∧ RunesAt W a rs := by
  have hc := h
  rcases h.2 with ⟨rfl, h0⟩ | ⟨g, cap, cur, rfl, _, hg, hle, _⟩
  · exact ⟨none, 0, by rw [h0], Or.inl (List.length_eq_zero_iff.1 h0)⟩
  · refine ⟨_, cap, rfl, Or.inr ⟨g, rfl, heap_lt hg, fun k hk => ?_⟩⟩
    have := World.ownsRow.cells hc rfl k (.int .i32 (rs.getD k 0)) (by simp [List.getElem?_eq_getElem hk, List.getD])
    rwa [Addr.add_lit, Nat.zero_add] at this

theorem eqnil_func (f : Fn) (x y : Array Value) (w : World) : (binOp .eql 26 (.func f x y) Value.nilFunc).run Tryd.prog w = .ok (.bool false) w := by kernel_rfl

/-- what stays while StepWalks goes on -/
structure WW (w : World) (a0 : Option Addr) (cap : Nat) (l : List Int) (gE gA : Nat) (early : Int) (a1 a2 b1 b2 aw : Option Addr) (wx : World) : Prop where
  isB : IsB wx a0 cap l
  tab : Tab wx
  p1 : IntsAt wx a1 (spots l 0)
  s1 : StepsAt wx l a2 (spots l 0)
  p2 : IntsAt wx b1 (spots l 0).reverse
  s2 : StepsAt wx l b2 (spots l 0).reverse
  sw : StepsAt wx l aw (spots l 0)
  ge : gE < wx.heap.size
  ce : wx.cell? ⟨gE, 0, none⟩ = some (.int .i64 early)
  ga : gA < wx.heap.size
  ca : wx.cell? ⟨gA, 0, none⟩ = some (.string (strOfNums l))
  below : Below w.heap.size w wx
theorem WW.on {w : World} {a0 : Option Addr} {cap : Nat} {l : List Int} {gE gA : Nat} {early : Int} {a1 a2 b1 b2 aw : Option Addr} {wx wy : World} (h : WW w a0 cap l gE gA early a1 a2 b1 b2 aw wx) (hb : Below wx.heap.size wx wy) : WW w a0 cap l gE gA early a1 a2 b1 b2 aw wy :=
  ⟨h.isB.below hb (Nat.le_refl _), h.tab.below hb h.tab.size, h.p1.below hb (Nat.le_refl _), h.s1.below hb (Nat.le_refl _), h.p2.below hb (Nat.le_refl _), h.s2.below hb (Nat.le_refl _), h.sw.below hb (Nat.le_refl _),
    Nat.lt_of_lt_of_le h.ge hb.size, (hb.cell (p := ⟨gE, 0, none⟩) h.ge).trans h.ce, Nat.lt_of_lt_of_le h.ga hb.size, (hb.cell (p := ⟨gA, 0, none⟩) h.ga).trans h.ca, h.below.trans (hb.mono h.below.size)⟩

/-- a loop over an iterator that names no variable -/
theorem range_skip {P : Program} {n : Nat} {α : Type} {g : Operand} {ps : Array Tmp} {body : Code} {Q : Exit → Act → World → Prop} {a : Act} {w : World}
    (h1 : 1 ≤ n) {gf : Nat} {lb : Array Value} (hg : a.eval g = .func (.func gf) #[] lb) (eg : ∀ args w, (callFunc gf args).run P w = .ok (.enter gf args) w)
    {encs : α → Array Value} {n₀ : Nat} {S Sp : List α → Prop} {N : Nat} {w0 : World} (hseq : SeqStopsK Fence.wide (n - 1) P gf lb encs (Kp n₀) S Sp N w0) (hn : n₀ ≤ w.heap.size) (hb0 : Below w0.heap.size w0 w) (hps : ∀ x, (encs x).size = ps.size)
    (I : List α → World → Prop) (Ix : Code → List α → World → Prop) (hI : OwnFrom w.heap.size I) (hIx : ∀ c, OwnFrom w.heap.size (Ix c)) (h0 : I [] w)
    (hbody : ∀ (l : Nat) (pre : List α) (x : α) (W : World), w.heap.size ≤ l → I pre W → pre.length < N → body.wpIn (Fence.wide.inRound l) (n - 1 - 1) P (ownPostG w.heap.size (Kp n₀) I Ix (pre ++ [x]) W) { tmps := (ps.zip (encs x)).foldl (fun t (p, v) => t.setIfInBounds p v) a.tmps, defers := [] } W)
    (hdone : ∀ (D : Nat) (xs : List α) (W : World), w.heap.size ≤ D → S xs → I xs W → W.heap[D]? = some (.deferred (some [])) → Q .normal { a with defers := { target := .collected D, args := #[] } :: a.defers } W)
    (hstop : ∀ (D : Nat) (c : Code) (pre : List α) (W : World), w.heap.size ≤ D → Sp pre → Ix c pre W → W.heap[D]? = some (.deferred (some [])) → c.wpIn Fence.wide n P Q { a with defers := { target := .collected D, args := #[] } :: a.defers } W) :
    (Code.rangeFunc g ps Code.skip body).wpIn Fence.wide n P Q a w :=
  wpIn_rangeFunc_ownH rfl h1 hg trivial eg hseq kp_t (kp_b hn) hb0 hps I Ix hI hIx h0 (fun x a' _ => a' = { tmps := (ps.zip (encs x)).foldl (fun t (p, v) => t.setIfInBounds p v) a.tmps, defers := [] }) (fun _ _ _ _ _ _ h _ _ => h)
    (fun _ _ _ W _ hi hK => wpIn_skip (hK _ W (KeepsFrom.refl _ _) ⟨Below.refl _ _, KeepsWalks.refl _⟩ hi rfl))
    (fun l pre x a' W hl _ hi ha hlt => by subst ha; exact hbody l pre x W hl hi hlt) hdone hstop

/-- who stops early: how many have come -/
def cntI (wz : World) (gC : Nat) (early : Int) (pre : List Nat) (W : World) : Prop := wz.grownBy W (some gC) ∧ Boxed W gC 3 (.int .i64 pre.length) ∧ (pre.length = 0 ∨ (pre.length : Int) < early)
def cntX (wz : World) (gC : Nat) (early : Int) (c : Code) (pre : List Nat) (W : World) : Prop := c = Code.exit 2 ∧ wz.grownBy W (some gC) ∧ Boxed W gC 3 (.int .i64 pre.length) ∧ 1 ≤ pre.length ∧ (pre.length = 1 ∨ (pre.length : Int) ≤ early)
theorem cnt_keep {wz W W' : World} {gC : Nat} {v : Value} {row : Option Nat} (h : wz.grownBy W (some gC)) (hb : Boxed W gC 3 v) (hg : W.grownBy W' row) (hr : ∀ r, row = some r → wz.heap.size ≤ r ∧ ∃ o : Obj, W.heap[r]? = some o ∧ o.isCells = false) :
    wz.grownBy W' (some gC) ∧ Boxed W' gC 3 v := by
  refine ⟨grown_trans h hg (fun k e => Or.inr (hr k e).1), hb.kept hg (fun e => ?_)⟩
  obtain ⟨_, o, ho, hc⟩ := hr _ e.symm
  rw [show W.heap[gC]? = _ from hb] at ho
  cases ho
  cases hc
theorem cntI_own (wz : World) (gC : Nat) (early : Int) : OwnFrom wz.heap.size (cntI wz gC early) := fun _ _ _ _ ⟨h1, h2, h3⟩ hg hr => ⟨(cnt_keep h1 h2 hg hr).1, (cnt_keep h1 h2 hg hr).2, h3⟩
theorem cntX_own (wz : World) (gC : Nat) (early : Int) (c : Code) : OwnFrom wz.heap.size (cntX wz gC early c) := fun _ _ _ _ ⟨h0, h1, h2, h3⟩ hg hr => ⟨h0, (cnt_keep h1 h2 hg hr).1, (cnt_keep h1 h2 hg hr).2, h3⟩

set_option maxRecDepth 100000 in
set_option maxHeartbeats 8000000 in
theorem StepWalks_any (a0 : Option Addr) (cap : Nat) (l : List Int) (early : Int) (w : World) (hB : IsB w a0 cap l) (qb : cap ≤ 1048576) (_he : (Lit.int .i64 early).wf = true) (hT : Tab w) :
    Calls Tryd.prog 5 #[.slice a0 l.length cap, .int .i64 early] w fun e w' => e = .returned (.bool true) ∧ Below w.heap.size w w' := by
  have lB : l.length ≤ 1048576 := Nat.le_trans hB.1 qb
  have hsl := spots_le l
  refine (callsIn_wide (n := 3)).1 ?_
  refine callsIn_of_wp_marks Tryd.func5 rfl trivial ?_ rfl
  simp only [Tryd.ntmps5, List.size_toArray, List.length_cons, List.length_nil, Nat.reduceAdd, Nat.reduceSub, Array.replicate_succ, Array.replicate_zero, List.push_toArray, List.append_toArray, List.nil_append, List.cons_append]
  refine wpIn_wide.2 ?_
  have d0 := (Below.refl w.heap.size w).alloc (Nat.le_refl _) (.cells #[.int .i64 early] 3)
  have bE : (w.alloc (.cells #[.int .i64 early] 3)).cell? ⟨w.heap.size, 0, none⟩ = some (.int .i64 early) := (World.cell?_alloc_mark w _ _ (0, 0) 0).trans rfl
  have zE : w.heap.size < (w.alloc (.cells #[.int .i64 early] 3)).heap.size := by simp
  have hB0 := hB.below d0 (Nat.le_refl _)
  have hT0 := hT.below d0 hT.size
  go_wp2_with fail
  generalize w.alloc (.cells #[.int .i64 early] 3) = w0 at *
  generalize hgE : w.heap.size = gE at *
  have HGE := hide hgE
  clear hgE hB hT
  refine (All_at a0 cap l w0 hB0).mono ?_
  rintro e w1 ⟨rfl, rfl⟩
  have d1 := (Below.refl w0.heap.size w0).alloc (Nat.le_refl _) (.cells #[.string (strOfNums l)] 9)
  have bA : (w0.alloc (.cells #[.string (strOfNums l)] 9)).cell? ⟨w0.heap.size, 0, none⟩ = some (.string (strOfNums l)) := (World.cell?_alloc_mark w0 _ _ (0, 0) 0).trans rfl
  have zA : w0.heap.size < (w0.alloc (.cells #[.string (strOfNums l)] 9)).heap.size := by simp
  have hB1 := hB0.below d1 (Nat.le_refl _)
  have hT1 := hT0.below d1 hT0.size
  go_wp2_with fail
  generalize w0.alloc (.cells #[.string (strOfNums l)] 9) = w1 at *
  generalize hgA : w0.heap.size = gA at *
  refine (Back_at a0 cap l w1 hB1).mono ?_
  rintro e w2 ⟨gK, ak, ck, rfl, zK, cK, bK, x2⟩
  have hT2 := hT1.below x2 hT1.size
  have hq := eqnil_func
  go_wp2_with fail
  refine (fixed_any w2 hT2).mono ?_
  rintro e w3 ⟨rfl, x3⟩
  have hT3 := hT2.below x3 hT2.size
  have s2 := x2.size
  have x13 : Below w1.heap.size w1 w3 := x2.trans (x3.mono s2)
  have cA3 := (x13.cell (p := ⟨gA, 0, none⟩) zA).trans bA
  have zA3 : gA < w3.heap.size := Nat.lt_of_lt_of_le zA x13.size
  go_wp2_with fail
  refine (gone_allG gA l w3 cA3 zA3 hT3 hB1.2.2.2 lB).mono ?_
  rintro e w4 ⟨a1, c1, a2, c2, rfl, i1, j1, x4⟩
  have hT4 := hT3.below x4 hT3.size
  have x24 : Below w2.heap.size w2 w4 := x3.trans (x4.mono x3.size)
  have cK4 := (x24.cell (p := ⟨gK, 0, none⟩) zK).trans cK
  have zK4 : gK < w4.heap.size := Nat.lt_of_lt_of_le zK x24.size
  have bK4 := bK.below x24 (Nat.le_refl _)
  go_wp2_with fail
  refine (gone_back gK l ak ck w4 cK4 zK4 hT4 bK4 lB).mono ?_
  rintro e w5 ⟨b1, e1, b2, e2, rfl, i2, j2, x5⟩
  have x15 : Below w1.heap.size w1 w5 := x13.trans ((x4.mono x13.size).trans (x5.mono (Nat.le_trans x13.size x4.size)))
  have hB5 := hB1.below x15 (Nat.le_refl _)
  have hT5 := hT4.below x5 hT4.size
  go_wp2_with fail
  refine (Steps_at a0 cap l w5 hB5 lB).mono ?_
  rintro e w6 ⟨aw, cw, rfl, kw, jw, x6⟩
  have hB6 := hB5.below x6 (Nat.le_refl _)
  go_wp2_with fail
  refine (Edges_at a0 cap l w6 hB6 lB).mono ?_
  rintro e w7 ⟨v7, rfl, o7, x7⟩
  have hlen : (spots l 0 ++ [l.length]).length = (spots l 0).length + 1 := by simp
  rw [← hlen] at o7
  obtain ⟨ae, ce, rfl, ke, ie⟩ := ints_at o7
  obtain ⟨gN, rfl, zN, cN⟩ : ∃ g, ae = some ⟨g, 0, none⟩ ∧ g < w7.heap.size ∧ ∀ k, k < (spots l 0).length → w7.cell? ⟨g, k, none⟩ = some (.int .i64 ((spots l 0).getD k 0 : Nat)) := by
    rcases ie with h | ⟨g, h1, h2, h3⟩
    · simp at h
    · exact ⟨g, h1, h2, fun k hk => by rw [h3 k (by rw [hlen]; omega), getD_snoc _ _ _ hk]⟩
  rw [hlen] at ke ⊢
  have ie' : IntsAt w7 (some ⟨gN, 0, none⟩) (spots l 0) := Or.inr ⟨gN, rfl, zN, cN⟩
  have z3 := x13.size; have z4 := x4.size; have z5 := x5.size; have z6 := x6.size; have z7 := x7.size
  have x47 : Below w4.heap.size w4 w7 := x5.trans ((x6.mono z5).trans (x7.mono (Nat.le_trans z5 z6)))
  have x57 : Below w5.heap.size w5 w7 := x6.trans (x7.mono z6)
  have x17 : Below w1.heap.size w1 w7 := x15.trans (x57.mono x15.size)
  have z01 := d1.size
  have x07 : Below w.heap.size w w7 := by rw [unhide HGE]; exact d0.trans ((d1.mono (by omega)).trans (x17.mono (by omega)))
  have ww : WW w a0 cap l gE gA early a1 a2 b1 b2 aw w7 := ⟨hB1.below x17 (Nat.le_refl _), hT1.below x17 hT1.size, i1.below x47 (Nat.le_refl _), j1.below x47 (Nat.le_refl _), i2.below x57 (Nat.le_refl _), j2.below x57 (Nat.le_refl _), jw.below x7 (Nat.le_refl _),
    by omega, (x17.cell (p := ⟨gE, 0, none⟩) (by show gE < w1.heap.size; omega)).trans ((d1.cell (p := ⟨gE, 0, none⟩) (by show gE < gA; omega)).trans bE), Nat.lt_of_lt_of_le zA x17.size, (x17.cell (p := ⟨gA, 0, none⟩) zA).trans bA, x07⟩
  clear hB0 hT0 bE zE hB1 hT1 bA zA hT2 zK cK bK x2 hT3 s2 x13 cA3 zA3 x3 i1 j1 x4 hT4 x24 cK4 zK4 bK4 i2 j2 x5 x15 hB5 hT5 jw x6 hB6 o7 ie cN x7 z3 z4 z5 z6 z7 x47 x57 x17 z01 x07 d0 d1
  clear hlen
  go_wp2_with fail
  refine (Same_at a2 aw c2 cw l (spots l 0) w7 ww.s1 ww.sw (by omega)).mono ?_
  rintro e w8 ⟨rfl, q8⟩
  have x8 := quiet_below q8 w7.heap.size
  have ww8 := ww.on x8
  have ie8 := ie'.below x8 (Nat.le_refl _)
  have kn : (spots l 0).length ≤ ce := by omega
  clear ww ie' q8 x8 zN
  go_wp2_with fail
  refine (Alike_at a1 (some ⟨gN, 0, none⟩) c1 ce (spots l 0) w8 ww8.p1 ie8 (by omega)).mono ?_
  rintro e w9 ⟨rfl, q9⟩
  have x9 := quiet_below q9 w8.heap.size
  have ww9 := ww8.on x9
  clear ww8 ie8 q9 x9
  go_wp2_with fail
  generalize hn : (spots l 0).length = n at *
  have HN := hide hn
  clear hn
  go_loopw [14, 70] (fun u i wx => ∃ k : Nat, k ≤ n ∧ i = .int .i64 k ∧ Hid (wx.ownsRow w9.heap.size 21 1 u k (((runesL l).take k).map (Value.int .i32))) ∧ Below w9.heap.size w9 wx) (fun _ i _ => n - (intOf i).toNat)
  case atStart => exact ⟨0, Nat.zero_le _, rfl, World.ownsRow_nil _ _ _ _, Below.refl _ _⟩
  case round =>
    obtain ⟨k, hk, rfl, ho, hb⟩ := hrel
    have wx := ww9.on hb
    by_cases hlt : k < n
    · have hkl : k < (spots l 0).length := by rw [unhide HN]; exact hlt
      have hrl : (spots l 0).reverse.getD (n - 1 - k) 0 = (spots l 0).getD k 0 := by
        have hrk : n - 1 - k < (spots l 0).reverse.length := by rw [List.length_reverse, unhide HN]; omega
        simp only [List.getD, List.getElem?_eq_getElem hrk, List.getElem?_eq_getElem hkl, Option.getD_some, List.getElem_reverse]
        congr 1
        rw [unhide HN]; omega
      obtain ⟨g1, rfl, i1⟩ : ∃ g, a1 = some ⟨g, 0, none⟩ ∧ wr.cell? ⟨g, k, none⟩ = some (.int .i64 ((spots l 0).getD k 0 : Nat)) := by
        rcases wx.p1 with h | ⟨g, h1, _, h3⟩
        · rw [h] at hkl; simp at hkl
        · exact ⟨g, h1, h3 k hkl⟩
      obtain ⟨g2, rfl, j1, j2, j3⟩ : ∃ g, a2 = some ⟨g, 0, none⟩ ∧ wr.cell? ⟨g, k * 3, none⟩ = some (.int .i32 (first (l.drop ((spots l 0).getD k 0))).1) ∧ wr.cell? ⟨g, k * 3 + 1, none⟩ = some (.int .i64 (wid (l.drop ((spots l 0).getD k 0)))) ∧ wr.cell? ⟨g, k * 3 + 2, none⟩ = some (.bool (whl (l.drop ((spots l 0).getD k 0)))) := by
        rcases wx.s1 with h | ⟨g, h1, _, h3⟩
        · rw [h] at hkl; simp at hkl
        · exact ⟨g, h1, h3 k hkl⟩
      obtain ⟨g3, rfl, i3⟩ : ∃ g, b1 = some ⟨g, 0, none⟩ ∧ wr.cell? ⟨g, n - 1 - k, none⟩ = some (.int .i64 ((spots l 0).getD k 0 : Nat)) := by
        rcases wx.p2 with h | ⟨g, h1, _, h3⟩
        · have := congrArg List.length h; rw [List.length_reverse, unhide HN] at this; simp at this; omega
        · exact ⟨g, h1, by rw [h3 _ (by rw [List.length_reverse, unhide HN]; omega), hrl]⟩
      obtain ⟨g4, rfl, k1, k2, k3⟩ : ∃ g, b2 = some ⟨g, 0, none⟩ ∧ wr.cell? ⟨g, (n - 1 - k) * 3, none⟩ = some (.int .i32 (first (l.drop ((spots l 0).getD k 0))).1) ∧ wr.cell? ⟨g, (n - 1 - k) * 3 + 1, none⟩ = some (.int .i64 (wid (l.drop ((spots l 0).getD k 0)))) ∧ wr.cell? ⟨g, (n - 1 - k) * 3 + 2, none⟩ = some (.bool (whl (l.drop ((spots l 0).getD k 0)))) := by
        rcases wx.s2 with h | ⟨g, h1, _, h3⟩
        · have := congrArg List.length h; rw [List.length_reverse, unhide HN] at this; simp at this; omega
        · have := h3 (n - 1 - k) (by rw [List.length_reverse, unhide HN]; omega)
          rw [hrl] at this
          exact ⟨g, h1, this⟩
      obtain ⟨g5, rfl, m1⟩ : ∃ g, aw = some ⟨g, 0, none⟩ ∧ wr.cell? ⟨g, k * 3, none⟩ = some (.int .i32 (first (l.drop ((spots l 0).getD k 0))).1) := by
        rcases wx.sw with h | ⟨g, h1, _, h3⟩
        · rw [h] at hkl; simp at hkl
        · exact ⟨g, h1, (h3 k hkl).1⟩
      have hrs : (runesL l).take (k + 1) = (runesL l).take k ++ [(first (l.drop ((spots l 0).getD k 0))).1] := by
        have hkr : k < (runesL l).length := by rw [runesL, List.length_map]; exact hkl
        rw [List.take_succ_eq_append_getElem hkr]
        simp [runesL, List.getD, List.getElem?_eq_getElem hkl]
      have HRS := hide hrs
      clear hrs hrl
      generalize (spots l 0).getD k 0 = q at *
      generalize (first (l.drop q)).1 = r at *
      generalize wid (l.drop q) = wd at *
      generalize whl (l.drop q) = wh at *
      obtain ⟨m, hm⟩ : ∃ m, m = n - 1 - k := ⟨_, rfl⟩
      rw [← hm] at i3 k1 k2 k3
      have hmi : (n : Int) - 1 - (k : Int) = (m : Int) := by omega
      have hml : m < n := by omega
      clear hm
      go_wp2_with fail
      go_quiet (fail)
      have xq : Below wr.heap.size wr (wr.drewN nq) := quiet_below ⟨nq, rfl⟩ _
      have hq1 := own_below (unhide ho) xq
      have hbq := hb.trans (xq.mono hb.size)
      have mq : (wr.drewN nq).cell? ⟨g5, k * 3, none⟩ = some (.int .i32 r) := m1
      clear xq ho hb wx i1 j1 j2 j3 i3 k1 k2 k3 m1
      generalize wr.drewN nq = wq at *
      obtain ⟨g6, c6, w10, r6, o6, x6⟩ := push_rune wq _ k _ _ r 31 hq1 (by omega) hbq.size
      have R6 := hide r6
      clear r6
      go_wp2_with (at_builtin; refine wpList_append_known rfl _ _ 31 31 rfl _ _ rfl rfl _ _ (unhide R6) ?_)
      go_roundw
      case rel => exact ⟨k + 1, by omega, by go_num, by rw [unhide HRS, List.map_append]; exact hide o6, hbq.trans x6⟩
      case measure => simp [intOf]; omega
    · obtain rfl : k = n := by omega
      have hrn : (runesL l).length = k := by rw [runesL, List.length_map, unhide HN]
      have ho2 := unhide ho
      rw [List.take_of_length_le (by omega), ← hrn] at ho2
      obtain ⟨ar, cr, rfl, r9⟩ := runes_row ho2
      rw [hrn]
      have HRN := hide hrn
      clear ho ho2 hrn ww9 hb hlt hk
      have dc := (Below.refl wr.heap.size wr).alloc (Nat.le_refl _) (.cells #[.int .i64 0] 3)
      have bC := Boxed.new wr 3 (.int .i64 0)
      have wc := wx.on dc
      have rc := r9.below dc (Nat.le_refl _)
      have zc : wr.heap.size < (wr.alloc (.cells #[.int .i64 0] 3)).heap.size := by simp
      go_wp2_with fail
      generalize wr.alloc (.cells #[.int .i64 0] 3) = wz at *
      generalize hgC : wr.heap.size = gC at *
      have hst := all_stops gA gC l wz wc.ca (by rw [← hgC]; exact wx.ga) (by omega) wc.tab (by have := wc.tab.size; have := wx.tab.size; omega) (by unfold maxLen; omega) wc.isB.2.2.2
      have hge : gE < gC := by rw [← hgC]; exact wx.ge
      refine (wpIn_wide (n := 3)).1 ?_
      refine range_skip (by decide) (gf := 31) (lb := #[.pointer (some ⟨gA, 0, none⟩)]) rfl (enters_of Tryd.func31 (by kernel_rfl) rfl) hst (by omega) (Below.refl _ _) (fun _ => rfl)
        (cntI wz gC early) (cntX wz gC early) (cntI_own wz gC early) (cntX_own wz gC early) ⟨grown_refl _ _, bC, Or.inl rfl⟩ ?body ?done ?stop
      case body =>
        rintro lo pre x W hlo ⟨hg, hbx, hor⟩ hlt
        unfold encS
        have hc := hbx.cell
        have hf := hbx.frozen
        have hce : W.cell? ⟨gE, 0, none⟩ = some (.int .i64 early) := hg.cell (a := ⟨gE, 0, none⟩) wc.ce (fun e => by simp at e; omega)
        have hpb : pre.length < k := by rw [unhide HN] at hlt; exact hlt
        have hw1 := KeepsOthers.setCell W ⟨gC, 0, none⟩ (.int .i64 ((pre.length : Int) + 1))
        have hw2 : Below gC W (W.setCell ⟨gC, 0, none⟩ (.int .i64 ((pre.length : Int) + 1))) := (Below.refl gC W).setCell (p := ⟨gC, 0, none⟩) (Nat.le_refl _) _
        have hw3 : KeepsWalks W (W.setCell ⟨gC, 0, none⟩ (.int .i64 ((pre.length : Int) + 1))) := KeepsWalks.setCell _ _ _
        have hw4 : Boxed (W.setCell ⟨gC, 0, none⟩ (.int .i64 ((pre.length : Int) + 1))) gC 3 (.int .i64 ((pre.length : Int) + 1)) := hbx.set _
        have hw5 := grown_trans hg (grownBy_setCell' W gC (.int .i64 ((pre.length : Int) + 1))) (fun j e => by cases e; exact Or.inl rfl)
        have hw4' : Boxed (W.setCell ⟨gC, 0, none⟩ (.int .i64 ((pre.length : Int) + 1))) gC 3 (.int .i64 ((pre ++ [x]).length : Nat)) := by rw [List.length_append]; exact hw4
        by_cases hearly : early ≤ (pre.length : Int) + 1
        · gi_wp2
          exact ⟨hw1.from _, rfl, hw5, hw4', by rw [List.length_append]; simp, by rw [List.length_append, List.length_singleton]; rcases hor with h | h <;> omega⟩
        · gi_wp2
          exact ⟨hw1.from _, ⟨hw2, hw3⟩, hw5, hw4', by rw [List.length_append, List.length_singleton]; right; push_cast; omega⟩
      case done =>
        rintro D ys W hD rfl ⟨hg, hbx, hor⟩ hK
        rw [unhide HN] at hbx hor
        have hbW : Below wr.heap.size wr W := by rw [hgC]; exact dc.grown hg (by omega) (fun j e => by cases e; exact Nat.le_refl _)
        have wW := wx.on hbW
        have rW := r9.below hbW (Nat.le_refl _)
        have zW := hbx.lt
        have cW := hbx.cell
        have eW := wW.ce
        have hRu := Runes_at a0 cap l W wW.isB (by omega)
        rw [unhide HRN] at hRu
        clear hbW hbx hg
        go_wp2_with fail
        refine hRu.mono ?_
        rintro e w10 ⟨g10, c10, rfl, _, r10, x10⟩
        have wV := wW.on x10
        have rV := rW.below x10 (Nat.le_refl _)
        have zV : gC < w10.heap.size := Nat.lt_of_lt_of_le zW x10.size
        have cV := (x10.cell (p := ⟨gC, 0, none⟩) zW).trans cW
        have hK10 := (x10.block D (heap_lt hK)).trans hK
        have hsm := same_at (some ⟨g10, 0, none⟩) ar c10 cr (runesL l) w10 r10 rV (by have := runesL_le l; unfold maxLen; omega)
        rw [unhide HRN] at hsm
        clear hRu x10 wW rW zW cW eW hK
        go_wp2_with fail
        refine hsm.mono ?_
        rintro e w11 ⟨rfl, q11⟩
        have x11 := quiet_below q11 w10.heap.size
        have wU := wV.on x11
        have zU : gC < w11.heap.size := Nat.lt_of_lt_of_le zV x11.size
        have cU := (x11.cell (p := ⟨gC, 0, none⟩) zV).trans cV
        have hK11 := (x11.block D (heap_lt hK10)).trans hK10
        clear hsm q11 x11 wV zV cV hK10 rV r10
        go_wp2_with fail
        refine (Valid_at a0 cap l w11 wU.isB wU.tab).mono ?_
        rintro e w12 ⟨rfl, x12⟩
        have wS := wU.on x12
        have zS : gC < w12.heap.size := Nat.lt_of_lt_of_le zU x12.size
        have cS := (x12.cell (p := ⟨gC, 0, none⟩) zU).trans cU
        have hK12 := (x12.block D (heap_lt hK11)).trans hK11
        clear x12 wU zU cU hK11
        go_wp2_with fail
        refine (RValid_at a0 cap l w12 wS.isB lB).mono ?_
        rintro e w13 ⟨rfl, x13⟩
        have wR := wS.on x13
        have cR := (x13.cell (p := ⟨gC, 0, none⟩) zS).trans cS
        have eR := wR.ce
        have hK13 := (x13.block D (heap_lt hK12)).trans hK12
        have bR := wR.below
        clear x13 wS zS cS hK12 wR
        by_cases hmx : early ≤ 1
        · have hcm : (k : Int) ≤ 1 := by omega
          go_wp2_with fail
          all_goals refine ⟨by simp, .inl ⟨_, _, rfl, run_takeDeferred hK13, ?_⟩⟩
          all_goals exact ⟨_, results_tmp rfl _ _ _, rfl, bR.trans (belowK_b (w := w) (Nat.le_refl _) w13 D _ _ (Nat.le_trans wc.below.size hD) hK13 rfl rfl)⟩
        · have hcm : (k : Int) ≤ early := by omega
          go_wp2_with fail
          all_goals refine ⟨by simp, .inl ⟨_, _, rfl, run_takeDeferred hK13, ?_⟩⟩
          all_goals exact ⟨_, results_tmp rfl _ _ _, rfl, bR.trans (belowK_b (w := w) (Nat.le_refl _) w13 D _ _ (Nat.le_trans wc.below.size hD) hK13 rfl rfl)⟩
      case stop =>
        rintro D c pre W hD hpre ⟨rfl, hg, hbx, h1, hor⟩ hK
        have hpk : pre.length ≤ k := by
          have := hpre.length_le
          rw [unhide HN] at this
          exact this
        have n1 : ((k : Int) == 0) = false := by rw [beq_eq_false_iff_ne]; omega
        refine wpIn_wide.2 ?_
        generalize hcn : pre.length = cnt at *
        have n2 : ((cnt : Int) == 0) = false := by rw [beq_eq_false_iff_ne]; omega
        have hbW : Below wr.heap.size wr W := by rw [hgC]; exact dc.grown hg (by omega) (fun j e => by cases e; exact Nat.le_refl _)
        have wW := wx.on hbW
        have rW := r9.below hbW (Nat.le_refl _)
        have zW := hbx.lt
        have cW := hbx.cell
        have eW := wW.ce
        have hRu := Runes_at a0 cap l W wW.isB (by omega)
        rw [unhide HRN] at hRu
        clear hbW hbx hg
        go_wp2_with fail
        refine hRu.mono ?_
        rintro e w10 ⟨g10, c10, rfl, _, r10, x10⟩
        have wV := wW.on x10
        have rV := rW.below x10 (Nat.le_refl _)
        have zV : gC < w10.heap.size := Nat.lt_of_lt_of_le zW x10.size
        have cV := (x10.cell (p := ⟨gC, 0, none⟩) zW).trans cW
        have hK10 := (x10.block D (heap_lt hK)).trans hK
        have hsm := same_at (some ⟨g10, 0, none⟩) ar c10 cr (runesL l) w10 r10 rV (by have := runesL_le l; unfold maxLen; omega)
        rw [unhide HRN] at hsm
        clear hRu x10 wW rW zW cW eW hK
        go_wp2_with fail
        refine hsm.mono ?_
        rintro e w11 ⟨rfl, q11⟩
        have x11 := quiet_below q11 w10.heap.size
        have wU := wV.on x11
        have zU : gC < w11.heap.size := Nat.lt_of_lt_of_le zV x11.size
        have cU := (x11.cell (p := ⟨gC, 0, none⟩) zV).trans cV
        have hK11 := (x11.block D (heap_lt hK10)).trans hK10
        clear hsm q11 x11 wV zV cV hK10 rV r10
        go_wp2_with fail
        refine (Valid_at a0 cap l w11 wU.isB wU.tab).mono ?_
        rintro e w12 ⟨rfl, x12⟩
        have wS := wU.on x12
        have zS : gC < w12.heap.size := Nat.lt_of_lt_of_le zU x12.size
        have cS := (x12.cell (p := ⟨gC, 0, none⟩) zU).trans cU
        have hK12 := (x12.block D (heap_lt hK11)).trans hK11
        clear x12 wU zU cU hK11
        go_wp2_with fail
        refine (RValid_at a0 cap l w12 wS.isB lB).mono ?_
        rintro e w13 ⟨rfl, x13⟩
        have wR := wS.on x13
        have cR := (x13.cell (p := ⟨gC, 0, none⟩) zS).trans cS
        have eR := wR.ce
        have hK13 := (x13.block D (heap_lt hK12)).trans hK12
        have bR := wR.below
        clear x13 wS zS cS hK12 wR
        by_cases hmx : early ≤ 1
        · have hcm : (cnt : Int) ≤ 1 := by omega
          go_wp2_with fail
          all_goals refine ⟨by simp, .inl ⟨_, _, rfl, run_takeDeferred hK13, ?_⟩⟩
          all_goals exact ⟨_, results_tmp rfl _ _ _, rfl, bR.trans (belowK_b (w := w) (Nat.le_refl _) w13 D _ _ (Nat.le_trans wc.below.size hD) hK13 rfl rfl)⟩
        · have hcm : (cnt : Int) ≤ early := by omega
          go_wp2_with fail
          all_goals refine ⟨by simp, .inl ⟨_, _, rfl, run_takeDeferred hK13, ?_⟩⟩
          all_goals exact ⟨_, results_tmp rfl _ _ _, rfl, bR.trans (belowK_b (w := w) (Nat.le_refl _) w13 D _ _ (Nat.le_trans wc.below.size hD) hK13 rfl rfl)⟩

end Go.Proofs.YtffancemlpoebaaDoor
