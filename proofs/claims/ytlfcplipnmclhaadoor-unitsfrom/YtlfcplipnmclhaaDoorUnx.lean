/- Layer 3: contract of units.ToExact. -/
import Derived.Test.YtlfcplipnmclhaaDoorUnj
import Derived.Test.YtlfcplipnmclhaaDoorItsQ
import Derived.Test.YtlfcplipnmclhaaDoorGon
import Derived.Test.YtlfcplipnmclhaaDoorLat
namespace Go.Proofs.YtlfcplipnmclhaaDoor
open Go.ChangeShapes Go.WideShapes Go.ChangeAt Go.RowKit
attribute [local go_sem] Oper.semAt_some

/-- the exact units of the steps at these places -/
def stpU (l : List Int) (p : Nat) : List Int := if whl (l.drop p) then uni (first (l.drop p)).1 else [56320 + l.getD p 0]
def exP (l : List Int) (ps : List Nat) : List Int := ps.flatMap (stpU l)
def exL (l : List Int) : List Int := exP l (spots l 0)
theorem exP_snoc (l : List Int) (ps : List Nat) (p : Nat) : exP l (ps ++ [p]) = exP l ps ++ stpU l p := by simp [exP]
theorem stpU_len (l : List Int) (p : Nat) : (stpU l p).length ≤ 2 := by
  unfold stpU
  split
  · exact (uni_len _).1
  · simp
theorem exP_len (l : List Int) : ∀ ps : List Nat, (exP l ps).length ≤ 2 * ps.length
  | [] => by simp [exP]
  | p :: ps => by
    have h1 := exP_len l ps
    have h2 := stpU_len l p
    rw [show exP l (p :: ps) = stpU l p ++ exP l ps by simp [exP], List.length_append, List.length_cons]
    omega
theorem stpU_in {l : List Int} (hl : ∀ x ∈ l, 0 ≤ x ∧ x ≤ 255) {p : Nat} (hp : p < l.length) : ∀ x ∈ stpU l p, 0 ≤ x ∧ x ≤ 65535 := by
  unfold stpU
  split
  · exact uni_in (rune_step hl hp)
  · intro x hx
    rw [List.mem_singleton] at hx
    have := hl _ (getD_mem hp)
    omega
theorem exL_in {l : List Int} (hl : ∀ x ∈ l, 0 ≤ x ∧ x ≤ 255) : ∀ x ∈ exL l, 0 ≤ x ∧ x ≤ 65535 := by
  intro x hx
  obtain ⟨p, hp, hx⟩ := List.mem_flatMap.1 hx
  exact stpU_in hl (runesL_rune hl l.length 0 (by omega) p hp) x hx

/-- the loop's state -/
structure Tx (n₀ gO Bn : Nat) (a0 : Option Addr) (cap : Nat) (l : List Int) (w : World) (v : Value) (pre : List Nat) (W : World) : Prop where
  bo : Boxed W gO 31 v
  bb : Boxed W n₀ 30 (.slice a0 l.length cap)
  bn : Boxed W Bn 9 (.string (strOfNums l))
  ro : OwnU W n₀ v (exP l pre)
  below : Below n₀ w W
theorem Tx.kept {n₀ gO Bn : Nat} {a0 : Option Addr} {cap : Nat} {l : List Int} {w : World} {v : Value} {pre : List Nat} {W W' : World} {row : Option Nat} (h : Tx n₀ gO Bn a0 cap l w v pre W) (hw : w.heap.size = n₀) (hg : W.grownBy W' row)
    (hr : ∀ r, row = some r → n₀ ≤ r ∧ ∃ o : Obj, W.heap[r]? = some o ∧ o.isCells = false) : Tx n₀ gO Bn a0 cap l w v pre W' := by
  have ne : ∀ {k : Nat} {cur : Array Value} {t : TypeId} {m : Nat × Nat}, W.heap[k]? = some (.cells cur t m) → some k ≠ row := fun hk e => by
    obtain ⟨_, o, ho, hc⟩ := hr _ e.symm
    rw [hk] at ho
    cases ho
    cases hc
  have nr : ∀ {e s : Nat} {v : Value} {n : Nat} {xs : List Value}, W.ownsRow n₀ e s v n xs → v.ownBlock = none ∨ v.ownBlock ≠ row := fun h => by
    rcases h.2 with ⟨rfl, _⟩ | ⟨g, cap, cur, rfl, _, hg, _⟩
    · exact Or.inl rfl
    · exact Or.inr (ne hg)
  refine ⟨h.bo.kept hg (ne h.bo), h.bb.kept hg (ne h.bb), h.bn.kept hg (ne h.bn), World.ownsRow.kept h.ro hg (nr h.ro), h.below.grown hg (by have := h.below.size; omega) (fun k e => (hr k e).1)⟩
def toxI (n₀ gO Bn : Nat) (a0 : Option Addr) (cap : Nat) (l : List Int) (w : World) (pre : List (PlL l)) (W : World) : Prop := ∃ v, Tx n₀ gO Bn a0 cap l w v (vals pre) W
def toxA (n₀ gO Bn : Nat) (v8 : Value) (a0 : Option Addr) (cap : Nat) (l : List Int) (x : Nat) (a : Act) (W : World) : Prop :=
  ∃ Bx, Box3 W Bx 45 (.int .i32 (first (l.drop x)).1) (.int .i64 (wid (l.drop x))) (.bool (whl (l.drop x))) ∧
    a = { tmps := #[.slice a0 l.length cap, .pointer (some ⟨n₀, 0, none⟩), .slice none 0 0, .pointer (some ⟨gO, 0, none⟩), .int .i64 x, .pointer (some ⟨Bx, 0, none⟩), .slice a0 l.length cap, .int .i64 l.length, v8, .slice a0 l.length cap, .func (.func 50) #[] #[.pointer (some ⟨Bn, 0, none⟩)], .int .i64 x, .agg #[.int .i32 (first (l.drop x)).1, .int .i64 (wid (l.drop x)), .bool (whl (l.drop x))], undef, undef, undef, undef, undef, undef, undef, undef, undef, undef, undef, undef, undef, undef, undef, undef], defers := [] }
theorem toxI_own (n₀ gO Bn : Nat) (a0 : Option Addr) (cap : Nat) (l : List Int) (w : World) (B : Nat) (hw : w.heap.size = n₀) (hB : n₀ ≤ B) : OwnFrom B (toxI n₀ gO Bn a0 cap l w) := by
  rintro pre W W' row ⟨v, h⟩ hg hr
  exact ⟨v, h.kept hw hg (fun r e => ⟨by have := (hr r e).1; omega, (hr r e).2⟩)⟩
theorem toxA_own (n₀ gO Bn : Nat) (v8 : Value) (a0 : Option Addr) (cap : Nat) (l : List Int) (B x : Nat) (a : Act) : OwnFrom B (fun (_ : Unit) W => toxA n₀ gO Bn v8 a0 cap l x a W) := by
  rintro _ W W' row ⟨Bx, h2, h5⟩ hg hr
  have ne : ∀ {k : Nat} {cur : Array Value} {t : TypeId} {m : Nat × Nat}, W.heap[k]? = some (.cells cur t m) → some k ≠ row := fun hk e => by
    obtain ⟨o, ho, hc⟩ := (hr _ e.symm).2
    rw [hk] at ho
    cases ho
    cases hc
  exact ⟨Bx, h2.kept hg (ne h2), h5⟩

theorem OwnU.form {w : World} {B : Nat} {v : Value} {l : List Int} (h : OwnU w B v l) : ∃ a n cap, v = .slice a n cap := by
  rcases h.2 with ⟨rfl, h0⟩ | ⟨g, cap, cur, rfl, _⟩
  · exact ⟨none, 0, 0, rfl⟩
  · exact ⟨_, _, cap, rfl⟩
theorem Tx.alloc {n₀ gO Bn : Nat} {a0 : Option Addr} {cap : Nat} {l : List Int} {w : World} {v : Value} {pre : List Nat} {W : World} (h : Tx n₀ gO Bn a0 cap l w v pre W) (hw : w.heap.size = n₀) (o : Obj) : Tx n₀ gO Bn a0 cap l w v pre (W.alloc o) :=
  h.kept hw (World.grownBy_alloc W o none) (fun r e => by cases e)
theorem others_walks {A B : World} (h : KeepsOthers A B) : KeepsWalks A B := ⟨h.size, fun k o hk ho => h.same k o hk (by cases o <;> first | rfl | cases ho)⟩
theorem kq_of {n₀ Bn : Nat} {v : Value} {t : TypeId} {W W' : World} (h0 : 0 < n₀) (hb : Below n₀ W W') (h1 : Boxed W Bn t v) (h2 : Boxed W' Bn t v) (ho : KeepsOthers W W') : Kq Bn W W' :=
  ⟨⟨hb.size, fun k hk => by rcases hk with rfl | rfl; exact hb.block 0 h0; exact h2.trans h1.symm⟩, others_walks ho⟩
/-- units are appended, and the longer row is stored -/
theorem Tx.push {n₀ gO Bn : Nat} {a0 : Option Addr} {cap : Nat} {l : List Int} {w : World} {v v' : Value} {pre : List Nat} {x : Nat} {W w1 : World} {o : Obj} (h : Tx n₀ gO Bn a0 cap l w v pre W) (hw : w.heap.size = n₀) (h0 : 0 < n₀) (hgo : n₀ < gO) (hgb : gO ≠ Bn)
    (ho : OwnU w1 n₀ v' (exP l pre ++ stpU l x)) (hg : (W.alloc o).grownBy w1 v.ownBlock) :
    Boxed w1 gO 31 v ∧ Tx n₀ gO Bn a0 cap l w v' (pre ++ [x]) (w1.setCell ⟨gO, 0, none⟩ v') ∧ KeepsOthers W (w1.setCell ⟨gO, 0, none⟩ v') ∧ Kq Bn W (w1.setCell ⟨gO, 0, none⟩ v') := by
  have hs := h.below.size
  obtain ⟨a1, a2, a3, a4, a5⟩ := h.bo.appended (by decide) h.ro (by omega) (by omega) ho hg
  have kb : Boxed (w1.setCell ⟨gO, 0, none⟩ v') n₀ 30 (.slice a0 l.length cap) := ((h.bb.alloc o).kept hg (h.bb.not_row (by decide) h.ro)).kept (grownBy_setCell' w1 gO v') (fun e => by simp at e; omega)
  have kn : Boxed (w1.setCell ⟨gO, 0, none⟩ v') Bn 9 (.string (strOfNums l)) := ((h.bn.alloc o).kept hg (h.bn.not_row (by decide) h.ro)).kept (grownBy_setCell' w1 gO v') (fun e => by simp at e; omega)
  refine ⟨a1, ⟨a2, kb, kn, ?_, h.below.trans a5⟩, a4, kq_of h0 a5 h.bn kn a4⟩
  rw [exP_snoc]
  exact a3

set_option maxRecDepth 100000 in
set_option maxHeartbeats 2000000 in
theorem ToExact_at (a0 : Option Addr) (cap : Nat) (l : List Int) (w : World) (hB : IsB w a0 cap l) (hl : l.length ≤ 4194304) (hT : Tab w) :
    Calls Tryd.prog 17 #[.slice a0 l.length cap] w fun e w' => ∃ v, e = .returned v ∧ OwnU w' w.heap.size v (exL l) ∧ Below w.heap.size w w' := by
  refine (callsIn_wide (n := 3)).1 ?_
  obtain ⟨n₀, hn₀⟩ : ∃ n₀, w.heap.size = n₀ := ⟨_, rfl⟩
  have hT0s := hT.size
  rw [hn₀] at hT0s ⊢
  refine callsIn_of_wp_marks Tryd.func17 rfl trivial ?_ rfl
  simp only [Tryd.ntmps17, List.size_toArray, List.length_cons, List.length_nil, Nat.reduceAdd, Nat.reduceSub, Array.replicate_succ, Array.replicate_zero, List.push_toArray, List.append_toArray, List.nil_append, List.cons_append]
  refine wpIn_wide.2 ?_
  have d0 := (Below.refl n₀ w).alloc (by omega) (.cells #[.slice a0 l.length cap] 30)
  have bB := Boxed.new w 30 (.slice a0 l.length cap)
  have s0 : (w.alloc (.cells #[.slice a0 l.length cap] 30)).heap.size = n₀ + 1 := by simp; omega
  rw [hn₀] at bB
  obtain ⟨w1, hm, o1, b1⟩ := make_u16 (w.alloc (.cells #[.slice a0 l.length cap] 30)) l.length (by omega)
  rw [s0] at hm o1 b1
  have bB1 : Boxed w1 n₀ 30 (.slice a0 l.length cap) := (b1.block n₀ (by omega)).trans bB
  have gO := bB1.lt
  have z1 := b1.size
  have bB2 := bB1.alloc (.cells #[.slice (some ⟨n₀ + 1, 0, none⟩) 0 l.length] 31)
  have bO2 := Boxed.new w1 31 (.slice (some ⟨n₀ + 1, 0, none⟩) 0 l.length)
  have o2 := World.ownsRow.alloc (o1.mono (Nat.le_succ n₀)) (.cells #[.slice (some ⟨n₀ + 1, 0, none⟩) 0 l.length] 31)
  have b2 : Below n₀ w (w1.alloc (.cells #[.slice (some ⟨n₀ + 1, 0, none⟩) 0 l.length] 31)) := (d0.trans (b1.mono (Nat.le_succ n₀))).alloc (by omega) _
  have cB2 := bB2.cell
  have b2' := b2
  rw (occs := .pos [1]) [← hn₀] at b2'
  have hB2 := hB.below b2' (Nat.le_refl _)
  clear b2'
  have hT2 := hT.below b2 hT0s
  go_wp2_with fail
  generalize hgo : w1.heap.size = gO' at *
  generalize w1.alloc (.cells #[.slice (some ⟨n₀ + 1, 0, none⟩) 0 l.length] 31) = w2 at *
  clear hm o1 b1 bB bB1 z1 d0 s0
  refine (All_at a0 cap l w2 hB2).mono ?_
  rintro e w3 ⟨rfl, rfl⟩
  have d3 := (Below.refl w2.heap.size w2).alloc (Nat.le_refl _) (.cells #[.string (strOfNums l)] 9)
  have cN : (w2.alloc (.cells #[.string (strOfNums l)] 9)).cell? ⟨w2.heap.size, 0, none⟩ = some (.string (strOfNums l)) := (World.cell?_alloc_mark w2 _ _ (0, 0) 0).trans rfl
  have zN : w2.heap.size < (w2.alloc (.cells #[.string (strOfNums l)] 9)).heap.size := by simp
  have tx0 : Tx n₀ gO' w2.heap.size a0 cap l w (.slice (some ⟨n₀ + 1, 0, none⟩) 0 l.length) [] (w2.alloc (.cells #[.string (strOfNums l)] 9)) :=
    ⟨bO2.alloc _, bB2.alloc _, Boxed.new _ _ _, World.ownsRow.alloc o2 _, b2.alloc (by have := b2.size; omega) _⟩
  have hT3 := hT2.below d3 hT2.size
  go_wp2_with fail
  generalize w2.alloc (.cells #[.string (strOfNums l)] 9) = w3 at *
  have hzO := bO2.lt
  generalize w2.heap.size = Bn at *
  have z3 := tx0.below.size
  have hst := all_stopsQ Bn l w3 cN zN hT3 (by unfold maxLen; omega) hB.2.2.2
  have hgn : n₀ < gO' := gO
  have hgB : gO' ≠ Bn := by omega
  clear bB2 bO2 o2 b2 cB2 hB2 hT2 d3 cN gO
  refine (wpIn_wide (n := 3)).1 ?_
  refine wpIn_rangeFunc_ownH rfl (by decide) (gf := 50) (lb := #[.pointer (some ⟨Bn, 0, none⟩)]) rfl trivial (enters_of Tryd.func50 (by kernel_rfl) rfl) hst kq_t (kq_b hT3.size zN) (Below.refl _ _) (fun _ => rfl)
    (toxI n₀ gO' Bn a0 cap l w) (fun _ _ _ => False) (toxI_own n₀ gO' Bn a0 cap l w _ hn₀ (by omega)) (fun _ _ _ _ _ h _ _ => h) ⟨_, tx0⟩ (fun x => toxA n₀ gO' Bn (.slice (some ⟨n₀ + 1, 0, none⟩) 0 l.length) a0 cap l x.1) (fun x a => toxA_own _ _ _ _ _ _ _ _ x.1 a) ?assign ?body ?done ?stop
  case assign =>
    rintro lo pre ⟨x, hxs⟩ W K ⟨v, hm⟩ hK
    unfold encS
    gi_wp2
    have s0 := hm.below.size
    have ht := hm.alloc hn₀ (.cells #[.int .i32 (first (l.drop x)).1, .int .i64 (wid (l.drop x)), .bool (whl (l.drop x))] 45)
    exact hK _ _ ((KeepsOthers.alloc _ _).from _) (kq_of hT0s ((Below.refl n₀ W).alloc (by omega) _) hm.bn ht.bn (KeepsOthers.alloc _ _)) ⟨v, ht⟩ ⟨W.heap.size, Box3.new W _ _ _ _, rfl⟩
  case body =>
    rintro lo pre ⟨x, hxs⟩ a' W hlo ⟨r, hr⟩ ⟨v, hm⟩ ⟨Bx, bX, rfl⟩ hlt
    have hvl := vals_len pre
    generalize hpv : vals pre = pv at *
    have HPV := hide hpv
    clear hpv
    have s0 := hm.below.size
    obtain ⟨x0, x1, x2⟩ := bX.cells
    have cO := hm.bo.cell
    have hpl := exP_len l pv
    have hsl := spots_le l
    have HR := hide (rune_step hB.2.2.2 hxs)
    cases hwh : whl (l.drop x) with
    | true =>
      have HU : Hid (stpU l x = uni (first (l.drop x)).1) := hide (by rw [stpU, if_pos hwh])
      rw [hwh] at x2
      gi_wp2_with fail
      refine ⟨by first | trivial | (intro e; cases e), ?_⟩
      refine (CallsIn.inRound _ (callsIn_wide.2 (appendRune_at n₀ v (exP l pv) (first (l.drop x)).1 W hm.ro (unhide HR) (by omega) (by omega)))).mono ?_
      rintro e w4 ⟨v4, rfl, o4, b4, o, g4⟩
      rw [← unhide HU] at o4
      obtain ⟨a4, n4, p4, rfl⟩ := OwnU.form o4
      obtain ⟨k1, k2, k3, k4⟩ := hm.push hn₀ hT0s hgn hgB o4 g4
      have c4 := k1.cell
      have f4 := k1.frozen
      gi_wp2_with fail
      exact ⟨k3.from _, k4, _, by rw [vals_snoc, unhide HPV]; exact k2⟩
    | false =>
      obtain ⟨g, off, rfl, hL, hg⟩ := hB.2.2.1.lies (by omega)
      have HU : Hid (stpU l x = [56320 + l.getD x 0]) := hide (by rw [stpU, if_neg (by simp [hwh])])
      have hcb : W.cell? ⟨g, off + x, none⟩ = some (.int .u8 (l.getD x 0)) := (hm.below.cell (p := ⟨g, off + x, none⟩) (by show g < n₀; omega)).trans (hL x hxs).1
      have cB := hm.bb.cell
      obtain ⟨y0, y1⟩ := (hL x hxs).2
      generalize l.getD x 0 = y at *
      rw [hwh] at x2
      have hmd : Tx n₀ gO' Bn (some ⟨g, off, none⟩) cap l w v pv W.drew := hm.kept hn₀ (row := none) ⟨rfl, rfl, rfl, Nat.le_refl _, fun _ _ _ => rfl⟩ (fun r e => by cases e)
      have HS : Hid (W.drew.cell? ⟨gO', 0, none⟩ = some v ∧ W.drew.cell? ⟨n₀, 0, none⟩ = some (.slice (some ⟨g, off, none⟩) l.length cap) ∧ W.drew.cell? ⟨g, off + x, none⟩ = some (.int .u8 y)) := hide ⟨cO, cB, hcb⟩
      have q0 : Kq Bn W W.drew := ⟨⟨Nat.le_refl _, fun _ _ => rfl⟩, others_walks (KeepsOthers.drew W)⟩
      have o0 : KeepsOthers W W.drew := KeepsOthers.drew W
      have sd : n₀ ≤ W.drew.heap.size := by show n₀ ≤ W.heap.size; omega
      gi_wp2_with fail
      refine regionL_in (S := fun w' => w'.cell? ⟨gO', 0, none⟩ = some v ∧ w'.cell? ⟨n₀, 0, none⟩ = some (.slice (some ⟨g, off, none⟩) l.length cap) ∧ w'.cell? ⟨g, off + x, none⟩ = some (.int .u8 y)) (fun i => i == 9) (by kernel_rfl) ?hd ?hq ?_
      case hd =>
        intro j o c h e
        have := Array.mem_of_getElem? h
        simp only [List.mem_toArray, List.mem_cons, List.not_mem_nil, or_false] at this
        rcases this with rfl | rfl | rfl | rfl | rfl | rfl | rfl | rfl | rfl | rfl <;> cases e
      case hq => rintro ⟨a, w, h⟩; exact h
      have hw1 : IntKind.u16.wrap y = y := by rw [IntKind.wrap_u16]; omega
      have hw2 : IntKind.u16.wrap (56320 + y) = 56320 + y := by rw [IntKind.wrap_u16]; omega
      generalize W.drew = wd at *
      clear hm bX cO cB hcb hr s0
      refine anyL_take (i := 0) (v := ?v0) rfl (by kernel_rfl) (by kernel_rfl) (by kernel_rfl) (by kernel_rfl) (fun _ _ _ h => h) (Or.inl ⟨by rfl, ?h0⟩) (unhide HS) ?_
      case h0 => (intro w hSw; (try dsimp only at hSw); go_simp) <;> with_reducible rfl
      simp only [Act.put, List.getElem_toArray, List.getElem_cons_zero, List.setIfInBounds_toArray, List.set_cons_zero, List.set_cons_succ]
      refine anyL_take (i := 1) (v := ?v1) rfl (by kernel_rfl) (by kernel_rfl) (by kernel_rfl) (by kernel_rfl) (fun _ _ _ h => h) (Or.inl ⟨by rfl, ?h1⟩) (unhide HS) ?_
      case h1 => (intro w hSw; (try dsimp only at hSw); go_simp) <;> with_reducible rfl
      simp only [Act.put, List.getElem_toArray, List.getElem_cons_zero, List.getElem_cons_succ, List.setIfInBounds_toArray, List.set_cons_zero, List.set_cons_succ]
      refine anyL_take (i := 2) (v := ?v2) rfl (by kernel_rfl) (by kernel_rfl) (by kernel_rfl) (by kernel_rfl) (fun _ _ _ h => h) (Or.inl ⟨by rfl, ?h2⟩) (unhide HS) ?_
      case h2 => (intro w hSw; (try dsimp only at hSw); go_simp) <;> with_reducible rfl
      simp only [Act.put, List.getElem_toArray, List.getElem_cons_zero, List.getElem_cons_succ, List.setIfInBounds_toArray, List.set_cons_zero, List.set_cons_succ]
      refine anyL_take (i := 3) (v := ?v3) rfl (by kernel_rfl) (by kernel_rfl) (by kernel_rfl) (by kernel_rfl) (fun _ _ _ h => h) (Or.inl ⟨by rfl, ?h3⟩) (unhide HS) ?_
      case h3 => (intro w hSw; (try dsimp only at hSw); go_simp) <;> with_reducible rfl
      simp only [Act.put, List.getElem_toArray, List.getElem_cons_zero, List.getElem_cons_succ, List.setIfInBounds_toArray, List.set_cons_zero, List.set_cons_succ]
      refine anyL_take (i := 4) (v := ?v4) rfl (by kernel_rfl) (by kernel_rfl) (by kernel_rfl) (by kernel_rfl) (fun _ _ _ h => h) (Or.inl ⟨by rfl, ?h4⟩) (unhide HS) ?_
      case h4 => (intro w hSw; (try dsimp only at hSw); go_simp) <;> with_reducible rfl
      simp only [Act.put, List.getElem_toArray, List.getElem_cons_zero, List.getElem_cons_succ, List.setIfInBounds_toArray, List.set_cons_zero, List.set_cons_succ]
      refine anyL_take (i := 5) (v := ?v5) rfl (by kernel_rfl) (by kernel_rfl) (by kernel_rfl) (by kernel_rfl) (fun _ _ _ h => h) (Or.inl ⟨by rfl, ?h5⟩) (unhide HS) ?_
      case h5 => (intro w hSw; (try dsimp only at hSw); go_simp) <;> with_reducible rfl
      simp only [Act.put, List.getElem_toArray, List.getElem_cons_zero, List.getElem_cons_succ, List.setIfInBounds_toArray, List.set_cons_zero, List.set_cons_succ]
      refine anyL_take (i := 6) (v := ?v6) rfl (by kernel_rfl) (by kernel_rfl) (by kernel_rfl) (by kernel_rfl) (fun _ _ _ h => h) (Or.inl ⟨by rfl, ?h6⟩) (unhide HS) ?_
      case h6 => (intro w hSw; (try dsimp only at hSw); go_simp) <;> with_reducible rfl
      simp only [Act.put, List.getElem_toArray, List.getElem_cons_zero, List.getElem_cons_succ, List.setIfInBounds_toArray, List.set_cons_zero, List.set_cons_succ]
      obtain ⟨v8, w8, r8, o8, b8, g8⟩ := push_u16 wd n₀ v (exP l pv) (56320 + y) 31 hmd.ro (by omega) sd
      rw [← unhide HU] at o8
      obtain ⟨a8, n8, p8, rfl⟩ := OwnU.form o8
      obtain ⟨k1, k2, k3, k4⟩ := hmd.push hn₀ hT0s hgn hgB o8 g8
      refine anyL_ready (rs := [7]) (by kernel_rfl) (by simp) ?_
      refine AllL.cons rfl (fun K hK => ?_) AllL.nil
      go_simp
      refine unhide hK _ _ (fun _ => ?s7) ?_
      case s7 =>
        have da := hmd.alloc hn₀ (.cells #[.int .u16 (56320 + y)] 22)
        exact ⟨da.bo.cell, da.bb.cell, (((Below.refl n₀ wd).alloc sd _).cell (p := ⟨g, off + x, none⟩) (by show g < n₀; omega)).trans (unhide HS).2.2⟩
      refine anyL_ready (rs := [8]) (by kernel_rfl) (by simp) ?_
      refine AllL.cons rfl (fun K hK => ?_) AllL.nil
      refine step_append_in rfl _ _ 31 31 rfl _ _ rfl rfl _ _ r8 ?_
      simp only [Act.put, List.getElem_toArray, List.getElem_cons_zero, List.getElem_cons_succ, List.setIfInBounds_toArray, List.set_cons_zero, List.set_cons_succ]
      refine unhide hK _ _ (fun _ => ?s8) ?_
      case s8 => exact ⟨k1.cell, ((hmd.bb.alloc _).kept g8 (hmd.bb.not_row (by decide) hmd.ro)).cell, (b8.cell (p := ⟨g, off + x, none⟩) (by show g < n₀; omega)).trans (unhide HS).2.2⟩
      have c8 := k1.cell
      have f8 := k1.frozen
      refine anyL_ready (rs := [9]) (by kernel_rfl) (by simp) ?_
      refine AllL.cons rfl (fun K hK => ?_) AllL.nil
      go_simp
      refine unhide hK _ _ (fun h => absurd h (by decide)) ?_
      refine anyL_done (by kernel_rfl) ?_ _
      exact ⟨(o0.trans k3).from _, kq_t q0 k4, _, by rw [vals_snoc, unhide HPV]; exact k2⟩
  case done =>
    rintro D ys W hD hys ⟨v, hm⟩ hK
    rw [hys] at hm
    have hc : W.cell? ⟨gO', 0, none⟩ = some v := hm.bo.cell
    go_wp2_with fail
    refine ⟨by simp, .inl ⟨_, _, rfl, run_takeDeferred hK, ?_⟩⟩
    exact ⟨_, results_tmp rfl _ _ _, v, rfl, ownsRow_putObj hm.ro _ hK rfl, hm.below.trans (belowK_b (w := w) (by omega) W D _ _ (by omega) hK rfl rfl)⟩
  case stop =>
    rintro D c pre W _ _ h _
    exact h.elim

end Go.Proofs.YtlfcplipnmclhaaDoor
