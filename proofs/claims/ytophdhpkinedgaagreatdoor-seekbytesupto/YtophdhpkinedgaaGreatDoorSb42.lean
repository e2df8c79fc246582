/- scan.take: its states, and what holds at each label. · scan.take: from the labels last and broken. · scan.take: from the label fitting. · scan.take: from the label further. · scan.take: from the label second. -/
import Derived.Test.YtophdhpkinedgaaGreatDoorSb36
import Derived.Scope
import Derived.ScopeJumps
import Derived.WalkMore

section
namespace Go.Proofs.YtophdhpkinedgaaGreatDoor
open Go.ChangeShapes Go.WideShapes Go.ChangeAt Go.RowKit

/-- by a goto: J of its label; else Q -/
def jumps (J : Nat → Act → World → Prop) (Q : Exit → Act → World → Prop) : Exit → Act → World → Prop
  | .goto l, a, w => J l a w
  | e, a, w => Q e a w
/-- a scope with several labels: what holds at each, a measure that each pass lowers -/
theorem wp_scope_labels {P : Program} {a : Act} {w : World} {Q : Exit → Act → World → Prop} {c : Code} (J : Nat → Nat → Act → World → Prop)
    (first : c.wp P (jumps (fun l a w => ∃ m, J l m a w) Q) a w)
    (pass : ∀ l m a w, J l m a w → ∃ rest, findLabel c l = some rest ∧ rest.wp P (jumps (fun l' a' w' => ∃ m', J l' m' a' w' ∧ m' < m) Q) a w) : (Code.scope c).wp P Q a w := by
  intro b k cs
  have key : ∀ m l a w, J l m a w → ∀ rest, findLabel c l = some rest → ∃ e a' w', Q e a' w' ∧ Arrives P (lone (b.at a (.code rest :: .inScope c :: k)) cs w) b k cs e a' w' := by
    intro m
    induction m using Nat.strongRecOn with
    | _ m ih =>
      intro l a w hJ rest hr
      obtain ⟨rest', hr', hp⟩ := pass l m a w hJ
      rw [hr] at hr'
      cases hr'
      obtain ⟨e, a₁, w₁, hq, harr⟩ := hp b (.inScope c :: k) cs
      cases e with
      | normal => exact ⟨.normal, a₁, w₁, hq, Steps.trans harr (.one step_inScope)⟩
      | exit id => exact ⟨.exit id, a₁, w₁, hq, fun k' hk => harr k' (by simp [exitTo, hk])⟩
      | goto l' =>
        obtain ⟨m', hJ', hlt⟩ := hq
        obtain ⟨r', hr', _⟩ := pass l' m' a₁ w₁ hJ'
        obtain ⟨e₂, a₂, w₂, hq₂, harr₂⟩ := ih m' hlt l' a₁ w₁ hJ' r' hr'
        have hg : gotoIn l' (.inScope c :: k) = some (.code r' :: .inScope c :: k) := by simp [gotoIn, hr']
        exact ⟨e₂, a₂, w₂, hq₂, .of_steps (harr _ hg) harr₂⟩
      | ret => exact ⟨_, a₁, w₁, hq, harr⟩
      | panic ch => exact ⟨_, a₁, w₁, hq, harr⟩
      | outgrown => exact ⟨_, a₁, w₁, hq, harr⟩
  obtain ⟨e, a₁, w₁, hq, harr⟩ := first b (.inScope c :: k) cs
  cases e with
  | normal => exact ⟨.normal, a₁, w₁, hq, .head step_scope (Steps.trans harr (.one step_inScope))⟩
  | exit id => exact ⟨.exit id, a₁, w₁, hq, fun k' hk => .head step_scope (harr k' (by simp [exitTo, hk]))⟩
  | goto l' =>
    obtain ⟨m', hJ'⟩ := hq
    obtain ⟨r', hr', _⟩ := pass l' m' a₁ w₁ hJ'
    obtain ⟨e₂, a₂, w₂, hq₂, harr₂⟩ := key m' l' a₁ w₁ hJ' r' hr'
    have hg : gotoIn l' (.inScope c :: k) = some (.code r' :: .inScope c :: k) := by simp [gotoIn, hr']
    exact ⟨e₂, a₂, w₂, hq₂, .of_steps (.head step_scope (harr _ hg)) harr₂⟩
  | ret => exact ⟨_, a₁, w₁, hq, .of_steps (.one step_scope) harr⟩
  | panic ch => exact ⟨_, a₁, w₁, hq, .of_steps (.one step_scope) harr⟩
  | outgrown => exact ⟨_, a₁, w₁, hq, .of_steps (.one step_scope) harr⟩

/-- the frame at a label: the scanner, the bytes that are left, what was told -/
def FrT (g : Nat) (bv tv : Value) (a : Act) : Prop := ∃ u2 u3 u6 u7 u8 u9 u10 u11 u12 u13 u14 u15 u16 u17 u18 u19 u20 u21 u22 u23 u24 u25 u26 u27 u28 u29 u30 u31 u32 u33 u34 u35 u36 u37 u38 u39 u40 u41 u42 u43 u44 u45 u46 u47 u48 u49 u50 u51 u52 u53 u54 u55 u56 u57 u58 u59 u60 u61 u62 u63 u64 u65 u66 u67 u68 u69 u70 u71 u72 u73 u74 u75 u76 u77 u78 u79 u80 u81 u82 : Value, a = { tmps := #[.pointer (some ⟨g, 0, none⟩), bv, u2, u3, .slice none 0 0, tv, u6, u7, u8, u9, u10, u11, u12, u13, u14, u15, u16, u17, u18, u19, u20, u21, u22, u23, u24, u25, u26, u27, u28, u29, u30, u31, u32, u33, u34, u35, u36, u37, u38, u39, u40, u41, u42, u43, u44, u45, u46, u47, u48, u49, u50, u51, u52, u53, u54, u55, u56, u57, u58, u59, u60, u61, u62, u63, u64, u65, u66, u67, u68, u69, u70, u71, u72, u73, u74, u75, u76, u77, u78, u79, u80, u81, u82], defers := [] }
/-- what holds of what is held and of the bytes that are left, at each label -/
def AtL (l : Nat) (h b : List Int) : Prop :=
  match l with
  | 0 => h = []
  | 1 => prop h = true ∧ h.length = 1
  | 2 => prop h = true ∧ 2 ≤ h.length
  | 3 => ∃ x r, b = x :: r ∧ whole (h ++ [x]) = true ∧ stepS h x = ([(value (h ++ [x]), h.length + 1, true)], [])
  | 4 => prop h = true ∧ ∃ x r, b = x :: r ∧ fits h x = true
  | 5 => prop h = true ∧ ∃ x r, b = x :: r ∧ fits h x = false
  | _ => False
def rank (l : Nat) : Nat := match l with | 0 => 1 | 1 => 3 | 2 => 3 | 3 => 0 | _ => 2
/-- the state of memory: w0: at the call -/
structure Mem (g : Nat) (fed : Int) (w0 : World) (h b : List Int) (ts : List Tri) (a0 : Option Addr) (cap : Nat) (v : Value) (w : World) : Prop where
  sca : Sca w g h fed
  scf : Scf w0.heap.size g w0 w
  row : RT w0.heap.size v ts w
  isb : IsB w0 a0 cap b
  blk : ∀ a, a0 = some a → a.block < w0.heap.size ∧ a.block ≠ g
  tab0 : Tab w0
  gne : g ≠ 0
  len : ts.length + h.length + b.length ≤ 4194000
  low : g < w0.heap.size
def J (g : Nat) (fed : Int) (w0 : World) (T : List Tri) (H : List Int) (l m : Nat) (a : Act) (w : World) : Prop :=
  ∃ (h b : List Int) (ts : List Tri) (a0 : Option Addr) (cap : Nat) (v : Value), FrT g (.slice a0 b.length cap) v a ∧ m = 4 * b.length + rank l ∧ Hid (Mem g fed w0 h b ts a0 cap v w) ∧ AtL l h b ∧
    Hid (ts ++ (scanS h b).1 = T ∧ (scanS h b).2 = H)
def JN (g : Nat) (fed : Int) (w0 : World) (T : List Tri) (H : List Int) (m l : Nat) (a : Act) (w : World) : Prop := ∃ m', J g fed w0 T H l m' a w ∧ m' < m
/-- what take answers -/
def TakeR (g : Nat) (fed : Int) (w0 : World) (T : List Tri) (H : List Int) (e : Ending) (w : World) : Prop := ∃ v, e = .returned v ∧ RT w0.heap.size v T w ∧ Sca w g H fed ∧ Scf w0.heap.size g w0 w
def scopeOf (f : Func) : Code := match f.body with | some (.seq _ (.scope c)) => c | _ => .skip
theorem Mem.ret {g : Nat} {fed : Int} {w0 w : World} {h : List Int} {ts T : List Tri} {H : List Int} {a0 : Option Addr} {cap : Nat} {v : Value} (hm : Mem g fed w0 h [] ts a0 cap v w) (hs : ts ++ (scanS h []).1 = T ∧ (scanS h []).2 = H) : TakeR g fed w0 T H (.returned v) w := by
  obtain ⟨rfl, rfl⟩ := hs
  simp only [scanS, List.append_nil]
  exact ⟨v, rfl, hm.row, hm.sca, hm.scf⟩
theorem Mem.tab {g : Nat} {fed : Int} {w0 w : World} {h b : List Int} {ts : List Tri} {a0 : Option Addr} {cap : Nat} {v : Value} (hm : Mem g fed w0 h b ts a0 cap v w) : Tab w := hm.tab0.scf hm.scf hm.tab0.size hm.gne
theorem Mem.head {g : Nat} {fed : Int} {w0 w : World} {h : List Int} {x : Int} {r : List Int} {ts : List Tri} {a0 : Option Addr} {cap : Nat} {v : Value} (hm : Mem g fed w0 h (x :: r) ts a0 cap v w) :
    ∃ gb off, a0 = some ⟨gb, off, none⟩ ∧ w.cell? ⟨gb, off, none⟩ = some (.int .u8 x) ∧ (0 ≤ x ∧ x ≤ 255) ∧ r.length + 1 ≤ cap ∧ r.length + 1 ≤ 140737488351232 ∧ gb < w0.heap.size ∧ gb ≠ g := by
  obtain ⟨h1, h2, h3, h4⟩ := hm.isb
  rcases h3 with h3 | ⟨gb, off, rfl, hL⟩
  · cases h3
  · have hb := hm.blk _ rfl
    exact ⟨gb, off, rfl, (hL.same (hm.scf.block gb hb.1 hb.2)).head.1, hL.head.2, h1, h2, hb.1, hb.2⟩
theorem Mem.next {g : Nat} {fed : Int} {w0 w w' : World} {h h' : List Int} {x : Int} {r : List Int} {ts ts' : List Tri} {gb off cap : Nat} {v v' : Value} (hm : Mem g fed w0 h (x :: r) ts (some ⟨gb, off, none⟩) cap v w)
    (s : Sca w' g h' fed) (f : Scf w0.heap.size g w0 w') (r' : RT w0.heap.size v' ts' w') (hl : ts'.length + h'.length ≤ ts.length + h.length + 1) :
    Mem g fed w0 h' r ts' (if cap = 1 then some ⟨gb, off, none⟩ else some ⟨gb, off + 1, none⟩) (cap - 1) v' w' := by
  obtain ⟨h1, h2, h3, h4⟩ := hm.isb
  have hb := hm.blk _ rfl
  have hl0 := hm.len
  simp only [List.length_cons] at h1 h2 hl0
  have hL : Lies w0 gb off (x :: r) := by
    rcases h3 with h3 | ⟨gb', off', e, hL⟩
    · cases h3
    · cases e; exact hL
  refine ⟨s, f, r', ⟨by omega, by omega, Bs.from1 h1 hL, fun y hy => h4 y (List.mem_cons_of_mem _ hy)⟩, fun a ha => ?_, hm.tab0, hm.gne, by omega, hm.low⟩
  split at ha <;> cases ha <;> exact hb
theorem Mem.stay {g : Nat} {fed : Int} {w0 w w' : World} {h h' b : List Int} {ts ts' : List Tri} {a0 : Option Addr} {cap : Nat} {v v' : Value} (hm : Mem g fed w0 h b ts a0 cap v w)
    (s : Sca w' g h' fed) (f : Scf w0.heap.size g w0 w') (r' : RT w0.heap.size v' ts' w') (hl : ts'.length + h'.length ≤ ts.length + h.length) : Mem g fed w0 h' b ts' a0 cap v' w' :=
  ⟨s, f, r', hm.isb, hm.blk, hm.tab0, hm.gne, by have := hm.len; omega, hm.low⟩
theorem Mem.drew {g : Nat} {fed : Int} {w0 w : World} {h b : List Int} {ts : List Tri} {a0 : Option Addr} {cap : Nat} {v : Value} (hm : Mem g fed w0 h b ts a0 cap v w) (n : Nat) : Mem g fed w0 h b ts a0 cap v (w.drewN n) :=
  hm.stay hm.sca (hm.scf.drewN n) hm.row (Nat.le_refl _)
theorem RT.scf {B g : Nat} {v : Value} {ts : List Tri} {W W' : World} (h : RT B v ts W) (hb : Scf W.heap.size g W W') (hg : g < B) : RT B v ts W' := h.same fun k hk hk' => hb.block k hk' (by omega)
set_option maxRecDepth 100000 in
theorem RT.pushw {B : Nat} {v : Value} {ts : List Tri} {W : World} (h : RT B v ts W) (r : Int) (n : Nat) (hn : ts.length ≤ 4194304) (hB : B ≤ W.heap.size) :
    ∃ g k W', (Builtin.append_ #[78, 78] 78 #[v, .slice (some ⟨W.heap.size, 0, none⟩) 1 1]).run Tryz.prog (W.alloc (.cells #[.int .i32 r, .int .i64 ((n : Int) + 1), .bool true] 68)) = .ok (.slice (some ⟨g, 0, none⟩) (ts.length + 1) k) W' ∧
      RT B (.slice (some ⟨g, 0, none⟩) (ts.length + 1) k) (ts ++ [(r, n + 1, true)]) W' ∧ Below B W W' := h.push r (n + 1) true hn hB
end Go.Proofs.YtophdhpkinedgaaGreatDoor
end

section
namespace Go.Proofs.YtophdhpkinedgaaGreatDoor
open Go.ChangeShapes Go.WideShapes Go.ChangeAt Go.RowKit

set_option maxHeartbeats 2000000 in
set_option maxRecDepth 100000 in
theorem pass_last (g : Nat) (fed : Int) (w0 : World) (T : List Tri) (H : List Int) (m : Nat) (a : Act) (w : World) (hJ : J g fed w0 T H 3 m a w) :
    ∃ rest, findLabel (scopeOf Tryz.f144) 3 = some rest ∧ rest.wp Tryz.prog (jumps (JN g fed w0 T H m) (bodyPost Tryz.prog Tryz.f144 (TakeR g fed w0 T H))) a w := by
  obtain ⟨h, b, ts, a0, cap, v, ⟨u2, u3, u6, u7, u8, u9, u10, u11, u12, u13, u14, u15, u16, u17, u18, u19, u20, u21, u22, u23, u24, u25, u26, u27, u28, u29, u30, u31, u32, u33, u34, u35, u36, u37, u38, u39, u40, u41, u42, u43, u44, u45, u46, u47, u48, u49, u50, u51, u52, u53, u54, u55, u56, u57, u58, u59, u60, u61, u62, u63, u64, u65, u66, u67, u68, u69, u70, u71, u72, u73, u74, u75, u76, u77, u78, u79, u80, u81, u82, rfl⟩, rfl, HM, hA, HQ⟩ := hJ
  obtain ⟨x, r, rfl, hw, he⟩ := hA
  obtain ⟨gb, off, rfl, hc, hx, hcap, hlen, hgb, hgn⟩ := (unhide HM).head
  simp only [List.length_cons]
  have HE := hide he
  have HW := hide hw
  clear he hw
  refine ⟨_, rfl, ?_⟩
  go_wp2_with fail
  refine (whole_at g h fed x w (unhide HM).sca hx (unhide HM).tab (unhide HW)).mono ?_
  unfold stepV
  rintro e w1 ⟨rfl, s1, f1⟩
  have hz0 := (unhide HM).scf.size
  have hlen2 := (unhide HM).len
  obtain ⟨g3, c3, w3, r3, o3, x3⟩ := ((unhide HM).row.scf f1 (unhide HM).low).pushw (value (h ++ [x])) h.length (by simp only [List.length_cons] at hlen2; omega) (Nat.le_trans hz0 f1.size)
  have R3 := hide r3
  clear r3
  have hM3 := (unhide HM).next (s1.below x3 (unhide HM).low) ((Scf.chain2 (Nat.le_refl _) (unhide HM).scf f1).trans (.of x3)) o3 (by simp)
  have HM3 := hide hM3
  clear hM3 x3 o3 s1 f1 hlen2
  have HQ3 : Hid ((ts ++ [(value (h ++ [x]), h.length + 1, true)]) ++ (scanS [] r).1 = T ∧ (scanS [] r).2 = H) := by
    obtain ⟨q1, q2⟩ := unhide HQ
    simp only [scanS, unhide HE] at q1 q2
    exact hide ⟨by rw [← q1]; simp, q2⟩
  clear HQ
  dsimp only
  go_wp2_with (at_builtin; refine wpList_append_known rfl _ _ 78 78 rfl _ _ rfl rfl _ _ (unhide R3) ?_)
  all_goals (
    go_step3
    first
      | rw [if_pos ‹cap = 1›, show cap - 1 = 0 by omega] at HM3
      | rw [if_neg ‹¬ cap = 1›] at HM3
    exact ⟨_, ⟨[], r, _, _, _, _, ⟨_, _, _, _, _, _, _, _, _, _, _, _, _, _, _, _, _, _, _, _, _, _, _, _, _, _, _, _, _, _, _, _, _, _, _, _, _, _, _, _, _, _, _, _, _, _, _, _, _, _, _, _, _, _, _, _, _, _, _, _, _, _, _, _, _, _, _, _, _, _, _, _, _, _, _, _, _, _, _, rfl⟩, rfl, HM3, rfl, HQ3⟩, by simp only [rank]; omega⟩)
set_option maxHeartbeats 2000000 in
set_option maxRecDepth 100000 in
theorem pass_broken (g : Nat) (fed : Int) (w0 : World) (T : List Tri) (H : List Int) (m : Nat) (a : Act) (w : World) (hJ : J g fed w0 T H 5 m a w) :
    ∃ rest, findLabel (scopeOf Tryz.f144) 5 = some rest ∧ rest.wp Tryz.prog (jumps (JN g fed w0 T H m) (bodyPost Tryz.prog Tryz.f144 (TakeR g fed w0 T H))) a w := by
  obtain ⟨h, b, ts, a0, cap, v, ⟨u2, u3, u6, u7, u8, u9, u10, u11, u12, u13, u14, u15, u16, u17, u18, u19, u20, u21, u22, u23, u24, u25, u26, u27, u28, u29, u30, u31, u32, u33, u34, u35, u36, u37, u38, u39, u40, u41, u42, u43, u44, u45, u46, u47, u48, u49, u50, u51, u52, u53, u54, u55, u56, u57, u58, u59, u60, u61, u62, u63, u64, u65, u66, u67, u68, u69, u70, u71, u72, u73, u74, u75, u76, u77, u78, u79, u80, u81, u82, rfl⟩, rfl, HM, hA, HQ⟩ := hJ
  obtain ⟨hp, x, r, rfl, hf⟩ := hA
  have HP := hide hp
  have hq := scanS_broken (r := r) hp hf
  have HQ3 : Hid ((ts ++ List.replicate h.length badT) ++ (scanS [] (x :: r)).1 = T ∧ (scanS [] (x :: r)).2 = H) := by
    obtain ⟨q1, q2⟩ := unhide HQ
    rw [hq] at q1 q2
    exact hide ⟨by rw [← q1]; simp, q2⟩
  clear HQ hq hp hf
  refine ⟨_, rfl, ?_⟩
  go_wp2_with fail
  refine (breakOff_at g w0.heap.size h fed v ts w (unhide HM).sca (unhide HM).row (unhide HM).scf.size (unhide HM).low (by have := (unhide HM).len; omega)).mono ?_
  rintro e w1 ⟨v1, rfl, o1, s1, f1⟩
  have HM3 := hide ((unhide HM).stay s1 ((unhide HM).scf.trans f1) o1 (by simp))
  clear o1 s1 f1
  dsimp only
  go_wp2_with fail
  go_step3
  exact ⟨_, ⟨[], x :: r, _, _, _, _, ⟨_, _, _, _, _, _, _, _, _, _, _, _, _, _, _, _, _, _, _, _, _, _, _, _, _, _, _, _, _, _, _, _, _, _, _, _, _, _, _, _, _, _, _, _, _, _, _, _, _, _, _, _, _, _, _, _, _, _, _, _, _, _, _, _, _, _, _, _, _, _, _, _, _, _, _, _, _, _, _, rfl⟩, rfl, HM3, rfl, HQ3⟩, by simp only [rank]; omega⟩
end Go.Proofs.YtophdhpkinedgaaGreatDoor
end

section
namespace Go.Proofs.YtophdhpkinedgaaGreatDoor
open Go.ChangeShapes Go.WideShapes Go.ChangeAt Go.RowKit

set_option maxHeartbeats 2000000 in
set_option maxRecDepth 100000 in
theorem pass_fitting (g : Nat) (fed : Int) (w0 : World) (T : List Tri) (H : List Int) (m : Nat) (a : Act) (w : World) (hJ : J g fed w0 T H 4 m a w) :
    ∃ rest, findLabel (scopeOf Tryz.f144) 4 = some rest ∧ rest.wp Tryz.prog (jumps (JN g fed w0 T H m) (bodyPost Tryz.prog Tryz.f144 (TakeR g fed w0 T H))) a w := by
  obtain ⟨h, b, ts, a0, cap, v, ⟨u2, u3, u6, u7, u8, u9, u10, u11, u12, u13, u14, u15, u16, u17, u18, u19, u20, u21, u22, u23, u24, u25, u26, u27, u28, u29, u30, u31, u32, u33, u34, u35, u36, u37, u38, u39, u40, u41, u42, u43, u44, u45, u46, u47, u48, u49, u50, u51, u52, u53, u54, u55, u56, u57, u58, u59, u60, u61, u62, u63, u64, u65, u66, u67, u68, u69, u70, u71, u72, u73, u74, u75, u76, u77, u78, u79, u80, u81, u82, rfl⟩, rfl, HM, hA, HQ⟩ := hJ
  obtain ⟨hp, x, r, rfl, hf⟩ := hA
  obtain ⟨gb, off, rfl, hc, hx, hcap, hlen, hgb, hgn⟩ := (unhide HM).head
  have HP := hide hp
  have HFT := hide hf
  clear hp hf
  simp only [List.length_cons]
  refine ⟨_, rfl, ?_⟩
  go_wp2_with fail
  obtain ⟨a, t, rfl⟩ : ∃ a t, h = a :: t := by
    cases h with
    | nil => cases unhide HP
    | cons a t => exact ⟨a, t, rfl⟩
  cases hv : (need a == (t.length : Int) + 2) with
  | true =>
    refine (lacksOne_at g a t fed _ (unhide HM).sca (unhide HM).tab hv).mono ?_
    rintro e w3 ⟨rfl, n3, rfl⟩
    have HM3 := hide ((unhide HM).drew n3)
    have hn : need ((a :: t).getD 0 0) = ((a :: t).length : Int) + 1 := by
      rw [beq_iff_eq] at hv; simp; omega
    have hw := fit_whole (unhide HP) (unhide HFT) hn
    have he : stepS (a :: t) x = ([(value ((a :: t) ++ [x]), (a :: t).length + 1, true)], []) := by rw [stepS, if_neg (by simp), if_pos (unhide HFT), if_pos hn]
    have HA : Hid (AtL 3 (a :: t) (x :: r)) := hide ⟨x, r, rfl, hw, he⟩
    clear hn hw he hv
    dsimp only
    go_wp2_with fail
    go_step3
    exact ⟨_, ⟨a :: t, x :: r, _, _, _, _, ⟨_, _, _, _, _, _, _, _, _, _, _, _, _, _, _, _, _, _, _, _, _, _, _, _, _, _, _, _, _, _, _, _, _, _, _, _, _, _, _, _, _, _, _, _, _, _, _, _, _, _, _, _, _, _, _, _, _, _, _, _, _, _, _, _, _, _, _, _, _, _, _, _, _, _, _, _, _, _, _, rfl⟩, rfl, HM3, unhide HA, HQ⟩, by simp only [rank, List.length_cons]; omega⟩
  | false =>
    refine (lacksOne_at g a t fed _ (unhide HM).sca (unhide HM).tab hv).mono ?_
    rintro e w3 ⟨rfl, n3, rfl⟩
    have HMh := hide ((unhide HM).drew n3)
    have hn : ¬ need ((a :: t).getD 0 0) = ((a :: t).length : Int) + 1 := fun e => by
      rw [beq_eq_false_iff_ne] at hv; simp at e; omega
    have hpp := fit_prop (unhide HP) (unhide HFT) hn
    have he : stepS (a :: t) x = ([], (a :: t) ++ [x]) := by rw [stepS, if_neg (by simp), if_pos (unhide HFT), if_neg hn]
    have HQ4 : Hid (ts ++ (scanS ((a :: t) ++ [x]) r).1 = T ∧ (scanS ((a :: t) ++ [x]) r).2 = H) := by
      obtain ⟨q1, q2⟩ := unhide HQ
      simp only [scanS, he] at q1 q2
      exact hide ⟨by rw [← q1]; simp, q2⟩
    have HA : Hid (AtL 2 ((a :: t) ++ [x]) r) := hide ⟨hpp.1, by simp⟩
    have HF := hide hpp.2
    have hlt3 : t.length + 1 < 3 := by simpa using hpp.2
    clear hn hpp he hv HQ
    dsimp only
    go_wp2_with fail
    refine (hold_at g (a :: t) fed x _ (unhide HMh).sca (unhide HF) hx).mono ?_
    rintro e w4 ⟨rfl, s4, f4⟩
    have HM4 := hide ((unhide HMh).next s4 (Scf.chain2 (Nat.le_refl _) (unhide HMh).scf f4) ((unhide HMh).row.scf f4 (unhide HMh).low) (by simp; omega))
    clear s4 f4
    dsimp only
    go_wp2_with fail
    all_goals (
      go_step3
      (first | rw [if_pos ‹cap = 1›, show cap - 1 = 0 by omega] at HM4 | rw [if_neg ‹¬ cap = 1›] at HM4)
      exact ⟨_, ⟨(a :: t) ++ [x], r, _, _, _, _, ⟨_, _, _, _, _, _, _, _, _, _, _, _, _, _, _, _, _, _, _, _, _, _, _, _, _, _, _, _, _, _, _, _, _, _, _, _, _, _, _, _, _, _, _, _, _, _, _, _, _, _, _, _, _, _, _, _, _, _, _, _, _, _, _, _, _, _, _, _, _, _, _, _, _, _, _, _, _, _, _, rfl⟩, rfl, HM4, unhide HA, HQ4⟩, by simp only [rank]; omega⟩)
end Go.Proofs.YtophdhpkinedgaaGreatDoor
end

section
namespace Go.Proofs.YtophdhpkinedgaaGreatDoor
open Go.ChangeShapes Go.WideShapes Go.ChangeAt Go.RowKit

set_option maxHeartbeats 2000000 in
set_option maxRecDepth 100000 in
theorem pass_further (g : Nat) (fed : Int) (w0 : World) (T : List Tri) (H : List Int) (m : Nat) (a : Act) (w : World) (hJ : J g fed w0 T H 2 m a w) :
    ∃ rest, findLabel (scopeOf Tryz.f144) 2 = some rest ∧ rest.wp Tryz.prog (jumps (JN g fed w0 T H m) (bodyPost Tryz.prog Tryz.f144 (TakeR g fed w0 T H))) a w := by
  obtain ⟨h, b, ts, a0, cap, v, ⟨u2, u3, u6, u7, u8, u9, u10, u11, u12, u13, u14, u15, u16, u17, u18, u19, u20, u21, u22, u23, u24, u25, u26, u27, u28, u29, u30, u31, u32, u33, u34, u35, u36, u37, u38, u39, u40, u41, u42, u43, u44, u45, u46, u47, u48, u49, u50, u51, u52, u53, u54, u55, u56, u57, u58, u59, u60, u61, u62, u63, u64, u65, u66, u67, u68, u69, u70, u71, u72, u73, u74, u75, u76, u77, u78, u79, u80, u81, u82, rfl⟩, rfl, HM, hA, HQ⟩ := hJ
  obtain ⟨hp, h2⟩ := hA
  cases b with
  | nil =>
    refine ⟨_, rfl, ?_⟩
    go_wp2_with fail
    show bodyPost _ _ _ Exit.ret _ _
    go_ret
    exact (unhide HM).ret (unhide HQ)
  | cons x r =>
    obtain ⟨gb, off, rfl, hc, hx, hcap, hlen, hgb, hgn⟩ := (unhide HM).head
    have HP := hide hp
    have hft : fits h x = isTail x := by
      match h, h2 with
      | _ :: _ :: _, _ => rfl
    clear hp
    simp only [List.length_cons]
    refine ⟨_, rfl, ?_⟩
    go_wp2_with fail
    refine (Class_any x _ hx.1 hx.2 (unhide HM).tab).mono ?_
    rintro e w2 ⟨rfl, rfl⟩
    have hic := isTail_cls x
    cases hcl : (cls x != 2) with
    | true =>
      have HA : Hid (AtL 5 h (x :: r)) := hide ⟨unhide HP, x, r, rfl, by rw [hft, hic, hcl]; rfl⟩
      dsimp only
      go_wp2_with fail
      go_step3
      exact ⟨_, ⟨h, x :: r, _, _, _, _, ⟨_, _, _, _, _, _, _, _, _, _, _, _, _, _, _, _, _, _, _, _, _, _, _, _, _, _, _, _, _, _, _, _, _, _, _, _, _, _, _, _, _, _, _, _, _, _, _, _, _, _, _, _, _, _, _, _, _, _, _, _, _, _, _, _, _, _, _, _, _, _, _, _, _, _, _, _, _, _, _, rfl⟩, rfl, HM, unhide HA, HQ⟩, by simp only [rank, List.length_cons]; omega⟩
    | false =>
      have HFT : Hid (fits h x = true) := hide (by rw [hft, hic, hcl]; rfl)
      clear hft hic
      dsimp only
      go_wp2_with fail
      go_step3
      go_wp2_with fail
      obtain ⟨a, t, rfl⟩ : ∃ a t, h = a :: t := by
        cases h with
        | nil => cases unhide HP
        | cons a t => exact ⟨a, t, rfl⟩
      cases hv : (need a == (t.length : Int) + 2) with
      | true =>
        refine (lacksOne_at g a t fed _ (unhide HM).sca (unhide HM).tab hv).mono ?_
        rintro e w3 ⟨rfl, n3, rfl⟩
        have HM3 := hide ((unhide HM).drew n3)
        have hn : need ((a :: t).getD 0 0) = ((a :: t).length : Int) + 1 := by
          rw [beq_iff_eq] at hv; simp; omega
        have hw := fit_whole (unhide HP) (unhide HFT) hn
        have he : stepS (a :: t) x = ([(value ((a :: t) ++ [x]), (a :: t).length + 1, true)], []) := by rw [stepS, if_neg (by simp), if_pos (unhide HFT), if_pos hn]
        have HA : Hid (AtL 3 (a :: t) (x :: r)) := hide ⟨x, r, rfl, hw, he⟩
        clear hn hw he hv
        dsimp only
        go_wp2_with fail
        go_step3
        exact ⟨_, ⟨a :: t, x :: r, _, _, _, _, ⟨_, _, _, _, _, _, _, _, _, _, _, _, _, _, _, _, _, _, _, _, _, _, _, _, _, _, _, _, _, _, _, _, _, _, _, _, _, _, _, _, _, _, _, _, _, _, _, _, _, _, _, _, _, _, _, _, _, _, _, _, _, _, _, _, _, _, _, _, _, _, _, _, _, _, _, _, _, _, _, rfl⟩, rfl, HM3, unhide HA, HQ⟩, by simp only [rank, List.length_cons]; omega⟩
      | false =>
        refine (lacksOne_at g a t fed _ (unhide HM).sca (unhide HM).tab hv).mono ?_
        rintro e w3 ⟨rfl, n3, rfl⟩
        have HMh := hide ((unhide HM).drew n3)
        have hn : ¬ need ((a :: t).getD 0 0) = ((a :: t).length : Int) + 1 := fun e => by
          rw [beq_eq_false_iff_ne] at hv; simp at e; omega
        have hpp := fit_prop (unhide HP) (unhide HFT) hn
        have he : stepS (a :: t) x = ([], (a :: t) ++ [x]) := by rw [stepS, if_neg (by simp), if_pos (unhide HFT), if_neg hn]
        have HQ4 : Hid (ts ++ (scanS ((a :: t) ++ [x]) r).1 = T ∧ (scanS ((a :: t) ++ [x]) r).2 = H) := by
          obtain ⟨q1, q2⟩ := unhide HQ
          simp only [scanS, he] at q1 q2
          exact hide ⟨by rw [← q1]; simp, q2⟩
        have HA : Hid (AtL 2 ((a :: t) ++ [x]) r) := hide ⟨hpp.1, by simp⟩
        have HF := hide hpp.2
        have hlt3 : t.length + 1 < 3 := by simpa using hpp.2
        clear hn hpp he hv HQ
        dsimp only
        go_wp2_with fail
        refine (hold_at g (a :: t) fed x _ (unhide HMh).sca (unhide HF) hx).mono ?_
        rintro e w4 ⟨rfl, s4, f4⟩
        have HM4 := hide ((unhide HMh).next s4 (Scf.chain2 (Nat.le_refl _) (unhide HMh).scf f4) ((unhide HMh).row.scf f4 (unhide HMh).low) (by simp; omega))
        clear s4 f4
        dsimp only
        go_wp2_with fail
        all_goals (
          go_step3
          (first | rw [if_pos ‹cap = 1›, show cap - 1 = 0 by omega] at HM4 | rw [if_neg ‹¬ cap = 1›] at HM4)
          exact ⟨_, ⟨(a :: t) ++ [x], r, _, _, _, _, ⟨_, _, _, _, _, _, _, _, _, _, _, _, _, _, _, _, _, _, _, _, _, _, _, _, _, _, _, _, _, _, _, _, _, _, _, _, _, _, _, _, _, _, _, _, _, _, _, _, _, _, _, _, _, _, _, _, _, _, _, _, _, _, _, _, _, _, _, _, _, _, _, _, _, _, _, _, _, _, _, rfl⟩, rfl, HM4, unhide HA, HQ4⟩, by simp only [rank]; omega⟩)
end Go.Proofs.YtophdhpkinedgaaGreatDoor
end

section
namespace Go.Proofs.YtophdhpkinedgaaGreatDoor
open Go.ChangeShapes Go.WideShapes Go.ChangeAt Go.RowKit

set_option maxHeartbeats 2000000 in
set_option maxRecDepth 100000 in
theorem pass_second (g : Nat) (fed : Int) (w0 : World) (T : List Tri) (H : List Int) (m : Nat) (a : Act) (w : World) (hJ : J g fed w0 T H 1 m a w) :
    ∃ rest, findLabel (scopeOf Tryz.f144) 1 = some rest ∧ rest.wp Tryz.prog (jumps (JN g fed w0 T H m) (bodyPost Tryz.prog Tryz.f144 (TakeR g fed w0 T H))) a w := by
  obtain ⟨h, b, ts, a0, cap, v, ⟨u2, u3, u6, u7, u8, u9, u10, u11, u12, u13, u14, u15, u16, u17, u18, u19, u20, u21, u22, u23, u24, u25, u26, u27, u28, u29, u30, u31, u32, u33, u34, u35, u36, u37, u38, u39, u40, u41, u42, u43, u44, u45, u46, u47, u48, u49, u50, u51, u52, u53, u54, u55, u56, u57, u58, u59, u60, u61, u62, u63, u64, u65, u66, u67, u68, u69, u70, u71, u72, u73, u74, u75, u76, u77, u78, u79, u80, u81, u82, rfl⟩, rfl, HM, hA, HQ⟩ := hJ
  obtain ⟨hp, h1⟩ := hA
  cases b with
  | nil =>
    refine ⟨_, rfl, ?_⟩
    go_wp2_with fail
    show bodyPost _ _ _ Exit.ret _ _
    go_ret
    exact (unhide HM).ret (unhide HQ)
  | cons x r =>
    obtain ⟨a, rfl⟩ : ∃ a, h = [a] := by
      match h, h1 with
      | [a], _ => exact ⟨a, rfl⟩
    obtain ⟨gb, off, rfl, hc, hx, hcap, hlen, hgb, hgn⟩ := (unhide HM).head
    obtain ⟨hca, ha0, ha1⟩ := (unhide HM).sca.2.2.1.head
    have HP := hide hp
    clear hp
    simp only [List.length_cons]
    refine ⟨_, rfl, ?_⟩
    go_wp2_with fail
    cases hs : sec a x with
    | true =>
      go_quiet ((go_at_call 135; exact Calls.quiet_of_same (Second_at _ _ _ ha0 ha1 hx.1 hx.2 (Tab.drewN (unhide HM).tab _) hs)))
      have HA : Hid (AtL 4 [a] (x :: r)) := hide ⟨unhide HP, x, r, rfl, hs⟩
      rename_i nq
      have HMq := hide ((unhide HM).drew nq)
      go_wp2_with fail
      go_step3
      exact ⟨_, ⟨[a], x :: r, _, _, _, _, ⟨_, _, _, _, _, _, _, _, _, _, _, _, _, _, _, _, _, _, _, _, _, _, _, _, _, _, _, _, _, _, _, _, _, _, _, _, _, _, _, _, _, _, _, _, _, _, _, _, _, _, _, _, _, _, _, _, _, _, _, _, _, _, _, _, _, _, _, _, _, _, _, _, _, _, _, _, _, _, _, rfl⟩, rfl, HMq, unhide HA, HQ⟩, by simp only [rank, List.length_cons]; omega⟩
    | false =>
      go_quiet ((go_at_call 135; exact Calls.quiet_of_same (Second_at _ _ _ ha0 ha1 hx.1 hx.2 (Tab.drewN (unhide HM).tab _) hs)))
      have HA : Hid (AtL 5 [a] (x :: r)) := hide ⟨unhide HP, x, r, rfl, hs⟩
      rename_i nq
      have HMq := hide ((unhide HM).drew nq)
      go_wp2_with fail
      go_step3
      exact ⟨_, ⟨[a], x :: r, _, _, _, _, ⟨_, _, _, _, _, _, _, _, _, _, _, _, _, _, _, _, _, _, _, _, _, _, _, _, _, _, _, _, _, _, _, _, _, _, _, _, _, _, _, _, _, _, _, _, _, _, _, _, _, _, _, _, _, _, _, _, _, _, _, _, _, _, _, _, _, _, _, _, _, _, _, _, _, _, _, _, _, _, _, rfl⟩, rfl, HMq, unhide HA, HQ⟩, by simp only [rank, List.length_cons]; omega⟩
end Go.Proofs.YtophdhpkinedgaaGreatDoor
end
