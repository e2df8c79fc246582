/- Contract of galleylaw02.gone: what an iterator gives, in two lists of the call's own. -/
import Derived.Test.YtbkageelholpeaaDoorGon
import Derived.Test.YtbkageelholpeaaDoorLat
namespace Go.Proofs.YtbkageelholpeaaDoor
open Go.ChangeShapes Go.WideShapes Go.ChangeAt Go.RowKit
attribute [local go_sem] Oper.semAt_some

def goneI (n₀ : Nat) (w : World) (l : List Int) (pre : List Nat) (W : World) : Prop := (∃ vp vs, Mid n₀ n₀ (n₀ + 1) vp vs l pre W) ∧ Below n₀ w W
def goneA (n₀ : Nat) (gf : Nat) (lb : Array Value) (l : List Int) (x : Nat) (a : Act) (W : World) : Prop :=
  ∃ Bx vs, n₀ + 1 < Bx ∧ Box3 W Bx 41 (.int .i32 (first (l.drop x)).1) (.int .i64 (wid (l.drop x))) (.bool (whl (l.drop x))) ∧ Boxed W (n₀ + 1) 34 vs ∧ vs.ownBlock ≠ some Bx ∧
    a = { tmps := #[.func (.func gf) #[] lb, undef, .slice none 0 0, .slice none 0 0, .pointer (some ⟨n₀, 0, none⟩), .pointer (some ⟨n₀ + 1, 0, none⟩), .int .i64 x, .pointer (some ⟨Bx, 0, none⟩), .func (.func gf) #[] lb, .int .i64 x, .agg #[.int .i32 (first (l.drop x)).1, .int .i64 (wid (l.drop x)), .bool (whl (l.drop x))], undef, undef, undef, undef, undef, undef, undef, undef, undef, undef], defers := [] }

theorem goneI_own (n₀ : Nat) (w : World) (l : List Int) (B : Nat) (hw : w.heap.size = n₀) (hB : n₀ ≤ B) : OwnFrom B (goneI n₀ w l) := by
  intro pre W W' row ⟨⟨vp, vs, hm⟩, hb⟩ hg hr
  refine ⟨⟨vp, vs, hm.kept hg (fun r e => (hr r e).2)⟩, hb.grown hg (by have := hb.size; omega) (fun k e => by have := (hr k e).1; omega)⟩
theorem goneA_own (n₀ : Nat) (gf : Nat) (lb : Array Value) (l : List Int) (B : Nat) (x : Nat) (a : Act) : OwnFrom B (fun (_ : Unit) W => goneA n₀ gf lb l x a W) := by
  intro _ W W' row ⟨Bx, vs, h1, h2, h3, h4, h5⟩ hg hr
  have ne : ∀ {k : Nat} {cur : Array Value} {t : TypeId} {m : Nat × Nat}, W.heap[k]? = some (.cells cur t m) → some k ≠ row := fun hk e => by
    obtain ⟨o, ho, hc⟩ := (hr _ e.symm).2
    rw [hk] at ho
    cases ho
    cases hc
  exact ⟨Bx, vs, h1, h2.kept hg (ne h2), h3.kept hg (ne h3), h4, h5⟩

set_option maxRecDepth 100000 in
set_option maxHeartbeats 2000000 in
theorem gone_at (gf : Nat) (lb : Array Value) (l : List Int) (ord : List Nat) (w : World) (eg : ∀ args w, (callFunc gf args).run Tryd.prog w = .ok (.enter gf args) w)
    (hseq : SeqStopsK Fence.wide 2 Tryd.prog gf lb (encS l) (Kp w.heap.size) (fun ys => ys = ord) (fun pre => pre <+: ord) ord.length w) (hlen : ord.length ≤ 4194304) :
    Calls Tryd.prog 11 #[.func (.func gf) #[] lb] w fun e w' => ∃ vp vs, e = .returned (.tuple #[vp, vs]) ∧ w'.ownsRow w.heap.size 3 1 vp ord.length (ints ord) ∧ w'.ownsRow w.heap.size 41 3 vs ord.length (stps l ord) ∧ Below w.heap.size w w' := by
  refine (callsIn_wide (n := 3)).1 ?_
  obtain ⟨n₀, hn₀⟩ : ∃ n₀, w.heap.size = n₀ := ⟨_, rfl⟩
  rw [hn₀] at hseq ⊢
  refine callsIn_of_wp_marks Tryd.func11 rfl trivial ?_ rfl
  simp only [Tryd.ntmps11, List.size_toArray, List.length_cons, List.length_nil, Nat.reduceAdd, Nat.reduceSub, Array.replicate_succ, Array.replicate_zero, List.push_toArray, List.append_toArray, List.nil_append, List.cons_append]
  have bO := Boxed.new w 36 (.slice none 0 0)
  have bN := Boxed.new (w.alloc (.cells #[.slice none 0 0] 36)) 34 (.slice none 0 0)
  rw [World.size_alloc, hn₀] at bN
  rw [hn₀] at bO
  have hB0 : Below n₀ w ((w.alloc (.cells #[.slice none 0 0] 36)).alloc (.cells #[.slice none 0 0] 34)) := ((Below.refl _ w).alloc (by omega) _).alloc (by simp; omega) _
  have hm0 : Mid n₀ n₀ (n₀ + 1) (.slice none 0 0) (.slice none 0 0) l [] ((w.alloc (.cells #[.slice none 0 0] 36)).alloc (.cells #[.slice none 0 0] 34)) := ⟨bO.alloc _, bN, World.ownsRow_nil _ _ _ _, World.ownsRow_nil _ _ _ _⟩
  have hs0 : ((w.alloc (.cells #[.slice none 0 0] 36)).alloc (.cells #[.slice none 0 0] 34)).heap.size = n₀ + 2 := by simp; omega
  gi_wp2
  generalize (w.alloc (.cells #[.slice none 0 0] 36)).alloc (.cells #[.slice none 0 0] 34) = w0 at *
  refine wpIn_rangeFunc_ownH rfl (by decide) (gf := gf) (lb := lb) rfl trivial eg hseq kp_t (kp_b (by omega)) (by rw [hn₀]; exact hB0) (fun _ => rfl)
    (goneI n₀ w l) (fun _ _ _ => False) (goneI_own n₀ w l _ hn₀ (by omega)) (fun _ _ _ _ _ h _ _ => h) ⟨⟨_, _, hm0⟩, hB0⟩ (goneA n₀ gf lb l) (fun x a => goneA_own n₀ gf lb l _ x a) ?assign ?body ?done ?stop
  case assign =>
    rintro lo pre x W K ⟨⟨vp, vs, hm⟩, hB⟩ hK
    unfold encS
    gi_wp2
    have s0 := hB.size
    exact hK _ _ ((KeepsOthers.alloc _ _).from _) ⟨(Below.refl _ W).alloc (by omega) _, KeepsWalks.alloc _ _⟩ ⟨⟨vp, vs, hm.alloc _⟩, hB.alloc (by omega) _⟩ ⟨W.heap.size, vs, hm.bs.lt, Box3.new W _ _ _ _, hm.bs.alloc _, fun e => Nat.lt_irrefl _ (hm.rs.lt _ e).2, rfl⟩
  case body =>
    rintro lo pre x a' W hlo ⟨r, hr⟩ ⟨⟨vp, vs, hm⟩, hB⟩ ⟨Bx, vs', hBx, bX, bV, hne, rfl⟩ hlt
    have s0 := hB.size
    obtain rfl : vs' = vs := by
      have h1 := bV.cell
      rw [hm.bs.cell] at h1
      exact (Option.some.inj h1).symm
    have hmd := hm.drew
    have hst : St n₀ Bx vp vs' l x W W.drew := ⟨⟨(Below.refl _ W).drew, KeepsOthers.drew W, by show n₀ ≤ W.heap.size; omega⟩, hmd.bp, hmd.bs, bX, hne⟩
    have rp : RP n₀ vp pre W.drew := hmd.rp
    have rs : RS n₀ l vs' pre W.drew := hmd.rs
    have hpl : pre.length ≤ 4194304 := by omega
    gi_wp2_with fail
    refine regionL_in (S := fun w' => w'.cell? ⟨n₀, 0, none⟩ = some vp ∧ w'.cell? ⟨n₀ + 1, 0, none⟩ = some vs' ∧ w'.cell? ⟨Bx, 0, none⟩ = some (.int .i32 (first (l.drop x)).1) ∧ w'.cell? ⟨Bx, 1, none⟩ = some (.int .i64 (wid (l.drop x))) ∧ w'.cell? ⟨Bx, 2, none⟩ = some (.bool (whl (l.drop x)))) (fun i => i == 8 || i == 9) (by kernel_rfl) ?hd ?hq ?_
    case hd =>
      intro j o c h e
      have := Array.mem_of_getElem? h
      simp only [List.mem_toArray, List.mem_cons, List.not_mem_nil, or_false] at this
      rcases this with rfl | rfl | rfl | rfl | rfl | rfl | rfl | rfl | rfl | rfl <;> cases e
    case hq => rintro ⟨a, w, h⟩; exact h
    generalize W.drew = w1 at *
    clear hmd hm bX bV
    refine anyL_take (i := 0) (v := ?v0) rfl (by kernel_rfl) (by kernel_rfl) (by kernel_rfl) (by kernel_rfl) (fun _ _ _ h => h) (Or.inl ⟨by rfl, ?h0⟩) hst.held ?_
    case h0 => (intro w hSw; (try dsimp only at hSw); go_simp) <;> with_reducible rfl
    simp only [Act.put, List.getElem_toArray, List.getElem_cons_zero, List.setIfInBounds_toArray, List.set_cons_zero, List.set_cons_succ]
    refine anyL_take (i := 1) (v := ?v1) rfl (by kernel_rfl) (by kernel_rfl) (by kernel_rfl) (by kernel_rfl) (fun _ _ _ h => h) (Or.inl ⟨by rfl, ?h1⟩) hst.held ?_
    case h1 => (intro w hSw; (try dsimp only at hSw); go_simp) <;> with_reducible rfl
    simp only [Act.put, List.getElem_toArray, List.getElem_cons_zero, List.getElem_cons_succ, List.setIfInBounds_toArray, List.set_cons_zero, List.set_cons_succ]
    refine anyL_take (i := 4) (v := ?v4) rfl (by kernel_rfl) (by kernel_rfl) (by kernel_rfl) (by kernel_rfl) (fun _ _ _ h => h) (Or.inl ⟨by rfl, ?h4⟩) hst.held ?_
    case h4 => (intro w hSw; (try dsimp only at hSw); go_simp) <;> with_reducible rfl
    simp only [Act.put, List.getElem_toArray, List.getElem_cons_zero, List.getElem_cons_succ, List.setIfInBounds_toArray, List.set_cons_zero, List.set_cons_succ]
    refine anyL_take (i := 5) (v := ?v5) rfl (by kernel_rfl) (by kernel_rfl) (by kernel_rfl) (by kernel_rfl) (fun _ _ _ h => h) (Or.inl ⟨by rfl, ?h5⟩) hst.held ?_
    case h5 => (intro w hSw; (try dsimp only at hSw); go_simp) <;> with_reducible rfl
    simp only [Act.put, List.getElem_toArray, List.getElem_cons_zero, List.getElem_cons_succ, List.setIfInBounds_toArray, List.set_cons_zero, List.set_cons_succ]
    refine anyL_ready (rs := [2, 6]) (by kernel_rfl) (by simp) ?_
    refine AllL.cons rfl (fun K hK => ?_) ?_
    · go_simp
      have hst2 := hst.alloc (.cells #[.int .i64 x] 3)
      have ep : EP w1.heap.size x (w1.alloc (.cells #[.int .i64 x] 3)) := Boxed.new _ _ _
      have rp2 := (kept_alloc (l := l) (.cells #[.int .i64 x] 3)).1 _ _ rp
      have rs2 := (kept_alloc (l := l) (.cells #[.int .i64 x] 3)).2.1 _ _ rs
      refine unhide hK _ _ (fun _ => hst2.held) ?_
      clear hK K hst rp rs
      generalize w1.alloc (.cells #[.int .i64 x] 3) = w2 at *
      generalize w1.heap.size = gp at *
      have hst := hst2
      have rp := rp2
      have rs := rs2
      clear hst2 rp2 rs2
      refine anyL_ready (rs := [3, 6]) (by kernel_rfl) (by simp) ?_
      refine AllL.cons rfl (fun K hK => ?_) ?_
      · obtain ⟨g3, c3, w3, r3, rp2, hst2, ks, ke⟩ := push_p hst rp hpl ep 36
        refine step_append_in rfl _ _ 36 36 rfl _ _ rfl rfl _ _ r3 ?_
        simp only [Act.put, List.getElem_toArray, List.getElem_cons_zero, List.getElem_cons_succ, List.setIfInBounds_toArray, List.set_cons_zero, List.set_cons_succ]
        refine unhide hK _ _ (fun _ => hst2.held) ?_
        have rs2 := ks _ _ rs
        clear hK K r3 ks ke hst rp rs ep
        have hst := hst2
        have rp := rp2
        have rs := rs2
        clear hst2 rp2 rs2
        refine anyL_ready (rs := [6]) (by kernel_rfl) (by simp) ?_
        refine AllL.cons rfl (fun K hK => ?_) ?_
        · go_simp
          have hst2 := hst.alloc (.cells #[.int .i32 (first (l.drop x)).1, .int .i64 (wid (l.drop x)), .bool (whl (l.drop x))] 41)
          have es : ES l w3.heap.size x (w3.alloc (.cells #[.int .i32 (first (l.drop x)).1, .int .i64 (wid (l.drop x)), .bool (whl (l.drop x))] 41)) := Box3.new _ _ _ _ _
          have rp2 := (kept_alloc (l := l) (.cells #[.int .i32 (first (l.drop x)).1, .int .i64 (wid (l.drop x)), .bool (whl (l.drop x))] 41)).1 _ _ rp
          have rs2 := (kept_alloc (l := l) (.cells #[.int .i32 (first (l.drop x)).1, .int .i64 (wid (l.drop x)), .bool (whl (l.drop x))] 41)).2.1 _ _ rs
          refine unhide hK _ _ (fun _ => hst2.held) ?_
          clear hK K hst rp rs
          generalize w3.alloc (.cells #[.int .i32 (first (l.drop x)).1, .int .i64 (wid (l.drop x)), .bool (whl (l.drop x))] 41) = w4 at *
          generalize w3.heap.size = gs at *
          have hst := hst2
          have rp := rp2
          have rs := rs2
          clear hst2 rp2 rs2
          refine anyL_ready (rs := [7]) (by kernel_rfl) (by simp) ?_
          refine AllL.cons rfl (fun K hK => ?_) ?_
          · obtain ⟨g7, c7, w5, r7, rs2, hst2, ks, _⟩ := push_s hst rs hpl es 34
            refine step_append_in rfl _ _ 34 34 rfl _ _ rfl rfl _ _ r7 ?_
            simp only [Act.put, List.getElem_toArray, List.getElem_cons_zero, List.getElem_cons_succ, List.setIfInBounds_toArray, List.set_cons_zero, List.set_cons_succ]
            refine unhide hK _ _ (fun _ => hst2.held) ?_
            have rp2 := ks _ _ rp
            clear hK K r7 ks hst rp rs es
            have hst := hst2
            have rp := rp2
            have rs := rs2
            clear hst2 rp2 rs2
            obtain ⟨hrun, hmid⟩ := hst.done rp rs
            obtain ⟨c1, f1⟩ := box_facts hst.bp
            obtain ⟨c2, f2⟩ := box_facts (hst.bs.kept (grownBy_setCell' w5 n₀ (.slice (some ⟨g3, 0, none⟩) (pre.length + 1) c3)) (by simp))
            refine anyL_ready (rs := [8]) (by kernel_rfl) (by simp) ?_
            refine AllL.cons rfl (fun K hK => ?_) AllL.nil
            go_simp
            refine unhide hK _ _ (fun h => absurd h (by decide)) ?_
            clear hK K c1 f1
            refine anyL_ready (rs := [9]) (by kernel_rfl) (by simp) ?_
            refine AllL.cons rfl (fun K hK => ?_) AllL.nil
            go_simp
            refine unhide hK _ _ (fun h => absurd h (by decide)) ?_
            clear hK K c2 f2
            refine anyL_done (by kernel_rfl) ?_ _
            exact ⟨hrun.others.from _, hrun.walks, ⟨_, _, hmid⟩, hB.trans hrun.below⟩
          exact AllL.nil
        exact AllL.nil
      refine AllL.cons rfl (fun K hK => ?_) ?_
      · go_simp
        have hst2 := hst.alloc (.cells #[.int .i32 (first (l.drop x)).1, .int .i64 (wid (l.drop x)), .bool (whl (l.drop x))] 41)
        have es : ES l w2.heap.size x (w2.alloc (.cells #[.int .i32 (first (l.drop x)).1, .int .i64 (wid (l.drop x)), .bool (whl (l.drop x))] 41)) := Box3.new _ _ _ _ _
        have rp2 := (kept_alloc (l := l) (.cells #[.int .i32 (first (l.drop x)).1, .int .i64 (wid (l.drop x)), .bool (whl (l.drop x))] 41)).1 _ _ rp
        have rs2 := (kept_alloc (l := l) (.cells #[.int .i32 (first (l.drop x)).1, .int .i64 (wid (l.drop x)), .bool (whl (l.drop x))] 41)).2.1 _ _ rs
        have ep2 := (kept_alloc (n₀ := n₀) (l := l) (.cells #[.int .i32 (first (l.drop x)).1, .int .i64 (wid (l.drop x)), .bool (whl (l.drop x))] 41)).2.2.1 _ _ ep
        refine unhide hK _ _ (fun _ => hst2.held) ?_
        clear hK K hst rp rs ep
        generalize w2.alloc (.cells #[.int .i32 (first (l.drop x)).1, .int .i64 (wid (l.drop x)), .bool (whl (l.drop x))] 41) = w3 at *
        generalize w2.heap.size = gs at *
        have hst := hst2
        have rp := rp2
        have rs := rs2
        have ep := ep2
        clear hst2 rp2 rs2 ep2
        refine anyL_ready (rs := [3]) (by kernel_rfl) (by simp) ?_
        refine AllL.cons rfl (fun K hK => ?_) ?_
        · obtain ⟨g3, c3, w4, r3, rp2, hst2, ks, ke⟩ := push_p hst rp hpl ep 36
          refine step_append_in rfl _ _ 36 36 rfl _ _ rfl rfl _ _ r3 ?_
          simp only [Act.put, List.getElem_toArray, List.getElem_cons_zero, List.getElem_cons_succ, List.setIfInBounds_toArray, List.set_cons_zero, List.set_cons_succ]
          refine unhide hK _ _ (fun _ => hst2.held) ?_
          have rs2 := ks _ _ rs
          have es2 := ke _ _ es
          clear hK K r3 ks ke hst rp rs ep es
          have hst := hst2
          have rp := rp2
          have rs := rs2
          have es := es2
          clear hst2 rp2 rs2 es2
          refine anyL_ready (rs := [7]) (by kernel_rfl) (by simp) ?_
          refine AllL.cons rfl (fun K hK => ?_) ?_
          · obtain ⟨g7, c7, w5, r7, rs2, hst2, ks, _⟩ := push_s hst rs hpl es 34
            refine step_append_in rfl _ _ 34 34 rfl _ _ rfl rfl _ _ r7 ?_
            simp only [Act.put, List.getElem_toArray, List.getElem_cons_zero, List.getElem_cons_succ, List.setIfInBounds_toArray, List.set_cons_zero, List.set_cons_succ]
            refine unhide hK _ _ (fun _ => hst2.held) ?_
            have rp2 := ks _ _ rp
            clear hK K r7 ks hst rp rs es
            have hst := hst2
            have rp := rp2
            have rs := rs2
            clear hst2 rp2 rs2
            obtain ⟨hrun, hmid⟩ := hst.done rp rs
            obtain ⟨c1, f1⟩ := box_facts hst.bp
            obtain ⟨c2, f2⟩ := box_facts (hst.bs.kept (grownBy_setCell' w5 n₀ (.slice (some ⟨g3, 0, none⟩) (pre.length + 1) c3)) (by simp))
            refine anyL_ready (rs := [8]) (by kernel_rfl) (by simp) ?_
            refine AllL.cons rfl (fun K hK => ?_) AllL.nil
            go_simp
            refine unhide hK _ _ (fun h => absurd h (by decide)) ?_
            clear hK K c1 f1
            refine anyL_ready (rs := [9]) (by kernel_rfl) (by simp) ?_
            refine AllL.cons rfl (fun K hK => ?_) AllL.nil
            go_simp
            refine unhide hK _ _ (fun h => absurd h (by decide)) ?_
            clear hK K c2 f2
            refine anyL_done (by kernel_rfl) ?_ _
            exact ⟨hrun.others.from _, hrun.walks, ⟨_, _, hmid⟩, hB.trans hrun.below⟩
          exact AllL.nil
        exact AllL.nil
      exact AllL.nil
    refine AllL.cons rfl (fun K hK => ?_) ?_
    · go_simp
      have hst2 := hst.alloc (.cells #[.int .i32 (first (l.drop x)).1, .int .i64 (wid (l.drop x)), .bool (whl (l.drop x))] 41)
      have es : ES l w1.heap.size x (w1.alloc (.cells #[.int .i32 (first (l.drop x)).1, .int .i64 (wid (l.drop x)), .bool (whl (l.drop x))] 41)) := Box3.new _ _ _ _ _
      have rp2 := (kept_alloc (l := l) (.cells #[.int .i32 (first (l.drop x)).1, .int .i64 (wid (l.drop x)), .bool (whl (l.drop x))] 41)).1 _ _ rp
      have rs2 := (kept_alloc (l := l) (.cells #[.int .i32 (first (l.drop x)).1, .int .i64 (wid (l.drop x)), .bool (whl (l.drop x))] 41)).2.1 _ _ rs
      refine unhide hK _ _ (fun _ => hst2.held) ?_
      clear hK K hst rp rs
      generalize w1.alloc (.cells #[.int .i32 (first (l.drop x)).1, .int .i64 (wid (l.drop x)), .bool (whl (l.drop x))] 41) = w2 at *
      generalize w1.heap.size = gs at *
      have hst := hst2
      have rp := rp2
      have rs := rs2
      clear hst2 rp2 rs2
      refine anyL_ready (rs := [2]) (by kernel_rfl) (by simp) ?_
      refine AllL.cons rfl (fun K hK => ?_) ?_
      · go_simp
        have hst2 := hst.alloc (.cells #[.int .i64 x] 3)
        have ep : EP w2.heap.size x (w2.alloc (.cells #[.int .i64 x] 3)) := Boxed.new _ _ _
        have rp2 := (kept_alloc (l := l) (.cells #[.int .i64 x] 3)).1 _ _ rp
        have rs2 := (kept_alloc (l := l) (.cells #[.int .i64 x] 3)).2.1 _ _ rs
        have es2 := (kept_alloc (n₀ := n₀) (.cells #[.int .i64 x] 3)).2.2.2 _ _ es
        refine unhide hK _ _ (fun _ => hst2.held) ?_
        clear hK K hst rp rs es
        generalize w2.alloc (.cells #[.int .i64 x] 3) = w3 at *
        generalize w2.heap.size = gp at *
        have hst := hst2
        have rp := rp2
        have rs := rs2
        have es := es2
        clear hst2 rp2 rs2 es2
        refine anyL_ready (rs := [3]) (by kernel_rfl) (by simp) ?_
        refine AllL.cons rfl (fun K hK => ?_) ?_
        · obtain ⟨g3, c3, w4, r3, rp2, hst2, ks, ke⟩ := push_p hst rp hpl ep 36
          refine step_append_in rfl _ _ 36 36 rfl _ _ rfl rfl _ _ r3 ?_
          simp only [Act.put, List.getElem_toArray, List.getElem_cons_zero, List.getElem_cons_succ, List.setIfInBounds_toArray, List.set_cons_zero, List.set_cons_succ]
          refine unhide hK _ _ (fun _ => hst2.held) ?_
          have rs2 := ks _ _ rs
          have es2 := ke _ _ es
          clear hK K r3 ks ke hst rp rs ep es
          have hst := hst2
          have rp := rp2
          have rs := rs2
          have es := es2
          clear hst2 rp2 rs2 es2
          refine anyL_ready (rs := [7]) (by kernel_rfl) (by simp) ?_
          refine AllL.cons rfl (fun K hK => ?_) ?_
          · obtain ⟨g7, c7, w5, r7, rs2, hst2, ks, _⟩ := push_s hst rs hpl es 34
            refine step_append_in rfl _ _ 34 34 rfl _ _ rfl rfl _ _ r7 ?_
            simp only [Act.put, List.getElem_toArray, List.getElem_cons_zero, List.getElem_cons_succ, List.setIfInBounds_toArray, List.set_cons_zero, List.set_cons_succ]
            refine unhide hK _ _ (fun _ => hst2.held) ?_
            have rp2 := ks _ _ rp
            clear hK K r7 ks hst rp rs es
            have hst := hst2
            have rp := rp2
            have rs := rs2
            clear hst2 rp2 rs2
            obtain ⟨hrun, hmid⟩ := hst.done rp rs
            obtain ⟨c1, f1⟩ := box_facts hst.bp
            obtain ⟨c2, f2⟩ := box_facts (hst.bs.kept (grownBy_setCell' w5 n₀ (.slice (some ⟨g3, 0, none⟩) (pre.length + 1) c3)) (by simp))
            refine anyL_ready (rs := [8]) (by kernel_rfl) (by simp) ?_
            refine AllL.cons rfl (fun K hK => ?_) AllL.nil
            go_simp
            refine unhide hK _ _ (fun h => absurd h (by decide)) ?_
            clear hK K c1 f1
            refine anyL_ready (rs := [9]) (by kernel_rfl) (by simp) ?_
            refine AllL.cons rfl (fun K hK => ?_) AllL.nil
            go_simp
            refine unhide hK _ _ (fun h => absurd h (by decide)) ?_
            clear hK K c2 f2
            refine anyL_done (by kernel_rfl) ?_ _
            exact ⟨hrun.others.from _, hrun.walks, ⟨_, _, hmid⟩, hB.trans hrun.below⟩
          exact AllL.nil
        exact AllL.nil
      exact AllL.nil
    exact AllL.nil
  case done =>
    rintro D ys W hD rfl ⟨⟨vp, vs, hm⟩, hB⟩ hK
    have hcp : W.cell? ⟨n₀, 0, none⟩ = some vp := hm.bp.cell
    have hcs : W.cell? ⟨n₀ + 1, 0, none⟩ = some vs := hm.bs.cell
    gi_wp2_with fail
    refine wpIn_wide.2 ?_
    go_region
    gi_wp2_with fail
    have hK' : W.drew.heap[D]? = some (.deferred (some [])) := hK
    refine ⟨by simp, .inl ⟨_, _, rfl, run_takeDeferred hK', ?_⟩⟩
    exact ⟨_, results_tmp2 rfl _ _ _, vp, vs, rfl, ownsRow_putObj hm.drew.rp _ hK' rfl, ownsRow_putObj hm.drew.rs _ hK' rfl, hB.drew.trans (belowK_b (w := w) (by omega) W.drew D _ _ (by omega) hK' rfl rfl)⟩
  case stop =>
    rintro D c pre W _ _ h _
    exact h.elim

end Go.Proofs.YtbkageelholpeaaDoor
