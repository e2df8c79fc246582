/- The walk of StepWalks, for arguments under the bound: it answers true wherever the table holds the classes, and changes nothing that was there. -/
import Derived.Test.YtbkageelholpeaaDoorTilesW
import Derived.Test.YtbkageelholpeaaDoorBak
import Derived.Test.YtbkageelholpeaaDoorRun
import Derived.Test.YtbkageelholpeaaDoorRf2T
import Derived.Test.YtbkageelholpeaaDoorRf2U
import Derived.Test.YtbkageelholpeaaDoorOwnR
namespace Go.Proofs.YtbkageelholpeaaDoor
open Go.ChangeShapes Go.WideShapes Go.ChangeAt Go.RowKit
attribute [local go_sem] Oper.semAt_some

theorem gone_allG (g : Nat) (l : List Int) (w : World) (hc : w.cell? ⟨g, 0, none⟩ = some (.string (strOfNums l))) (hg : g < w.heap.size) (hT : Tab w) (hb : ∀ x ∈ l, 0 ≤ x ∧ x ≤ 255) (hl : l.length ≤ 1048576) :
    Calls Tryd.prog 11 #[.func (.func 15) #[] #[.pointer (some ⟨g, 0, none⟩)]] w fun e w' =>
      ∃ a1 c1 a2 c2, e = .returned (.tuple #[.slice a1 (spots l 0).length c1, .slice a2 (spots l 0).length c2]) ∧ IntsAt w' a1 (spots l 0) ∧ StepsAt w' l a2 (spots l 0) ∧ Below w.heap.size w w' := by
  have := spots_le l
  refine (gone_at 15 _ l (spots l 0) w (enters_of Tryd.func15 (by kernel_rfl) rfl) (all_stops g w.heap.size l w hc hg (Nat.le_refl _) hT hT.size (by unfold maxLen; omega) hb) (by omega)).mono ?_
  rintro e w' ⟨vp, vs, rfl, hp, hv, hb⟩
  obtain ⟨a1, c1, rfl, h1, h2⟩ := ints_at hp
  obtain ⟨a2, c2, rfl, h3, h4⟩ := steps_at hv
  exact ⟨a1, c1, a2, c2, rfl, h2, h4, hb⟩
theorem gone_back (g : Nat) (l : List Int) (a0 : Option Addr) (cap : Nat) (w : World) (hc : w.cell? ⟨g, 0, none⟩ = some (.slice a0 l.length cap)) (hg : g < w.heap.size) (hT : Tab w) (hB : IsB w a0 cap l) (hl : l.length ≤ 1048576) :
    Calls Tryd.prog 11 #[.func (.func 18) #[] #[.pointer (some ⟨g, 0, none⟩)]] w fun e w' =>
      ∃ a1 c1 a2 c2, e = .returned (.tuple #[.slice a1 (spots l 0).length c1, .slice a2 (spots l 0).length c2]) ∧ IntsAt w' a1 (spots l 0).reverse ∧ StepsAt w' l a2 (spots l 0).reverse ∧ Below w.heap.size w w' := by
  have := spots_le l
  refine (gone_at 18 _ l (spots l 0).reverse w (enters_of Tryd.func18 (by kernel_rfl) rfl) (back_stops g w.heap.size l a0 cap w hc hg rfl hT hT.size hB) (by simp; omega)).mono ?_
  rintro e w' ⟨vp, vs, rfl, hp, hv, hb⟩
  obtain ⟨a1, c1, rfl, h1, h2⟩ := ints_at hp
  obtain ⟨a2, c2, rfl, h3, h4⟩ := steps_at hv
  exact ⟨a1, c1, a2, c2, by rw [List.length_reverse], h2, h4, hb⟩

theorem info_rune : ∃ i, Tryd.prog.info? 21 = some i ∧ i.zero = some (.int .i32 0) ∧ i.size = 1 ∧ i.bytes = 4 := by
  refine ⟨_, rfl, ?_, ?_, ?_⟩ <;> rfl
theorem push_rune (W : World) (B n : Nat) (v : Value) (xs : List Value) (x : Int) (ty : TypeId) (h : W.ownsRow B 21 1 v n xs) (hn : n ≤ 4194304) (hB : B ≤ W.heap.size) :
    ∃ g c W', (Builtin.append_ #[28, 28] ty #[v, .slice (some ⟨W.heap.size, 0, none⟩) 1 1]).run Tryd.prog (W.alloc (.cells #[.int .i32 x] 21)) = .ok (.slice (some ⟨g, 0, none⟩) (n + 1) c) W' ∧
      W'.ownsRow B 21 1 (.slice (some ⟨g, 0, none⟩) (n + 1) c) (n + 1) (xs ++ [.int .i32 x]) ∧ Below B W W' := by
  obtain ⟨i, hi, hz, hs, hby⟩ := info_rune
  have hr := World.ownsRow.alloc h (.cells #[.int .i32 x] 21)
  obtain ⟨g, c, W', hrun, ho, hg, _, _⟩ := run_append_lies (P := Tryd.prog) (W.alloc (.cells #[.int .i32 x] 21)) 28 ty B 21 i (.int .i32 0) 1 4 Tryd.underlying28 hi hz hs hby rfl (by decide)
    v n xs hr ⟨W.heap.size, 0, none⟩ 1 1 [.int .i32 x] rfl
    (fun j u hj => by
      cases j with
      | zero => simp at hj; subst hj; rw [Addr.add_lit]; exact (World.cell?_alloc_mark W _ _ (0, 0) 0).trans rfl
      | succ j => simp at hj)
    (fun u hu => by simp at hu; subst hu; rfl) (by decide) (by unfold maxLen; omega) (by omega) (by simp; omega) _ rfl
  exact ⟨g, c, W', hrun, ho, ((Below.refl B W).alloc hB _).grown hg (by simp; omega) (fun k hk => (hr.lt k hk).1)⟩
theorem runes_row {W : World} {B : Nat} {v : Value} {rs : List Int} (h : W.ownsRow B 21 1 v rs.length (rs.map (Value.int .i32))) : ∃ a cap, v = .slice a rs.length cap ∧ RunesAt W a rs := by
  have hc := h
  rcases h.2 with ⟨rfl, h0⟩ | ⟨g, cap, cur, rfl, _, hg, hle, _⟩
  · exact ⟨none, 0, by rw [h0], Or.inl (List.length_eq_zero_iff.1 h0)⟩
  · refine ⟨_, cap, rfl, Or.inr ⟨g, rfl, heap_lt hg, fun k hk => ?_⟩⟩
    have := World.ownsRow.cells hc rfl k (.int .i32 (rs.getD k 0)) (by simp [List.getElem?_eq_getElem hk, List.getD])
    rwa [Addr.add_lit, Nat.zero_add] at this

theorem eqnil_func (f : Fn) (x y : Array Value) (w : World) : (binOp .eql 25 (.func f x y) Value.nilFunc).run Tryd.prog w = .ok (.bool false) w := by kernel_rfl

/-- what stays while StepWalks goes on -/
structure WW (w : World) (a0 : Option Addr) (cap : Nat) (l : List Int) (gE gA : Nat) (early : Int) (a1 a2 b1 b2 aw : Option Addr) (wx : World) : Prop where
  isB : IsB wx a0 cap l
  tab : Tab wx
  p1 : IntsAt wx a1 (spots l 0)
  s1 : StepsAt wx l a2 (spots l 0)
  p2 : IntsAt wx b1 (spots l 0).reverse
  s2 : StepsAt wx l b2 (spots l 0).reverse
  sw : StepsAt wx l aw (spots l 0)
  ge : gE < wx.heap.size
  ce : wx.cell? ⟨gE, 0, none⟩ = some (.int .i64 early)
  ga : gA < wx.heap.size
  ca : wx.cell? ⟨gA, 0, none⟩ = some (.string (strOfNums l))
  below : Below w.heap.size w wx
theorem WW.on {w : World} {a0 : Option Addr} {cap : Nat} {l : List Int} {gE gA : Nat} {early : Int} {a1 a2 b1 b2 aw : Option Addr} {wx wy : World} (h : WW w a0 cap l gE gA early a1 a2 b1 b2 aw wx) (hb : Below wx.heap.size wx wy) : WW w a0 cap l gE gA early a1 a2 b1 b2 aw wy :=
  ⟨h.isB.below hb (Nat.le_refl _), h.tab.below hb h.tab.size, h.p1.below hb (Nat.le_refl _), h.s1.below hb (Nat.le_refl _), h.p2.below hb (Nat.le_refl _), h.s2.below hb (Nat.le_refl _), h.sw.below hb (Nat.le_refl _),
    Nat.lt_of_lt_of_le h.ge hb.size, (hb.cell (p := ⟨gE, 0, none⟩) h.ge).trans h.ce, Nat.lt_of_lt_of_le h.ga hb.size, (hb.cell (p := ⟨gA, 0, none⟩) h.ga).trans h.ca, h.below.trans (hb.mono h.below.size)⟩

/-- a loop over an iterator that names no variable -/
theorem range_skip {P : Program} {n : Nat} {α : Type} {g : Operand} {ps : Array Tmp} {body : Code} {Q : Exit → Act → World → Prop} {a : Act} {w : World}
    (h1 : 1 ≤ n) {gf : Nat} {lb : Array Value} (hg : a.eval g = .func (.func gf) #[] lb) (eg : ∀ args w, (callFunc gf args).run P w = .ok (.enter gf args) w)
    {encs : α → Array Value} {n₀ : Nat} {S Sp : List α → Prop} {N : Nat} {w0 : World} (hseq : SeqStopsK Fence.wide (n - 1) P gf lb encs (Kp n₀) S Sp N w0) (hn : n₀ ≤ w.heap.size) (hb0 : Below w0.heap.size w0 w) (hps : ∀ x, (encs x).size = ps.size)
    (I : List α → World → Prop) (Ix : Code → List α → World → Prop) (hI : OwnFrom w.heap.size I) (hIx : ∀ c, OwnFrom w.heap.size (Ix c)) (h0 : I [] w)
    (hbody : ∀ (l : Nat) (pre : List α) (x : α) (W : World), w.heap.size ≤ l → I pre W → pre.length < N → body.wpIn (Fence.wide.inRound l) (n - 1 - 1) P (ownPostG w.heap.size (Kp n₀) I Ix (pre ++ [x]) W) { tmps := (ps.zip (encs x)).foldl (fun t (p, v) => t.setIfInBounds p v) a.tmps, defers := [] } W)
    (hdone : ∀ (D : Nat) (xs : List α) (W : World), w.heap.size ≤ D → S xs → I xs W → W.heap[D]? = some (.deferred (some [])) → Q .normal { a with defers := { target := .collected D, args := #[] } :: a.defers } W)
    (hstop : ∀ (D : Nat) (c : Code) (pre : List α) (W : World), w.heap.size ≤ D → Sp pre → Ix c pre W → W.heap[D]? = some (.deferred (some [])) → c.wpIn Fence.wide n P Q { a with defers := { target := .collected D, args := #[] } :: a.defers } W) :
    (Code.rangeFunc g ps Code.skip body).wpIn Fence.wide n P Q a w :=
  wpIn_rangeFunc_ownH rfl h1 hg trivial eg hseq kp_t (kp_b hn) hb0 hps I Ix hI hIx h0 (fun x a' _ => a' = { tmps := (ps.zip (encs x)).foldl (fun t (p, v) => t.setIfInBounds p v) a.tmps, defers := [] }) (fun _ _ _ _ _ _ h _ _ => h)
    (fun _ _ _ W _ hi hK => wpIn_skip (hK _ W (KeepsFrom.refl _ _) ⟨Below.refl _ _, KeepsWalks.refl _⟩ hi rfl))
    (fun l pre x a' W hl _ hi ha hlt => by subst ha; exact hbody l pre x W hl hi hlt) hdone hstop

/-- who stops early: how many have come -/
def cntI (wz : World) (gC : Nat) (early : Int) (pre : List Nat) (W : World) : Prop := wz.grownBy W (some gC) ∧ Boxed W gC 3 (.int .i64 pre.length) ∧ (pre.length = 0 ∨ (pre.length : Int) < early)
def cntX (wz : World) (gC : Nat) (early : Int) (c : Code) (pre : List Nat) (W : World) : Prop := c = Code.exit 2 ∧ wz.grownBy W (some gC) ∧ Boxed W gC 3 (.int .i64 pre.length) ∧ 1 ≤ pre.length ∧ (pre.length = 1 ∨ (pre.length : Int) ≤ early)
theorem cnt_keep {wz W W' : World} {gC : Nat} {v : Value} {row : Option Nat} (h : wz.grownBy W (some gC)) (hb : Boxed W gC 3 v) (hg : W.grownBy W' row) (hr : ∀ r, row = some r → wz.heap.size ≤ r ∧ ∃ o : Obj, W.heap[r]? = some o ∧ o.isCells = false) :
    wz.grownBy W' (some gC) ∧ Boxed W' gC 3 v := by
  refine ⟨grown_trans h hg (fun k e => Or.inr (hr k e).1), hb.kept hg (fun e => ?_)⟩
  obtain ⟨_, o, ho, hc⟩ := hr _ e.symm
  rw [show W.heap[gC]? = _ from hb] at ho
  cases ho
  cases hc
theorem cntI_own (wz : World) (gC : Nat) (early : Int) : OwnFrom wz.heap.size (cntI wz gC early) := fun _ _ _ _ ⟨h1, h2, h3⟩ hg hr => ⟨(cnt_keep h1 h2 hg hr).1, (cnt_keep h1 h2 hg hr).2, h3⟩
theorem cntX_own (wz : World) (gC : Nat) (early : Int) (c : Code) : OwnFrom wz.heap.size (cntX wz gC early c) := fun _ _ _ _ ⟨h0, h1, h2, h3⟩ hg hr => ⟨h0, (cnt_keep h1 h2 hg hr).1, (cnt_keep h1 h2 hg hr).2, h3⟩

end Go.Proofs.YtbkageelholpeaaDoor
