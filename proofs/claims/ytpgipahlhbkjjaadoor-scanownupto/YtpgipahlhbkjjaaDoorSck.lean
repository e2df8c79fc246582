/- scan.take: its states, and what holds at each label. -/
import Derived.Test.YtpgipahlhbkjjaaDoorSco
import Derived.Scope
import Derived.ScopeJumps
namespace Go.Proofs.YtpgipahlhbkjjaaDoor
open Go.ChangeShapes Go.WideShapes Go.ChangeAt Go.RowKit

/-- by a goto: J of its label; else Q -/
def jumps (J : Nat → Act → World → Prop) (Q : Exit → Act → World → Prop) : Exit → Act → World → Prop
  | .goto l, a, w => J l a w
  | e, a, w => Q e a w
/-- a scope with several labels: what holds at each, a measure that each pass lowers -/
theorem wp_scope_labels {P : Program} {a : Act} {w : World} {Q : Exit → Act → World → Prop} {c : Code} (J : Nat → Nat → Act → World → Prop)
    (first : c.wp P (jumps (fun l a w => ∃ m, J l m a w) Q) a w)
    (pass : ∀ l m a w, J l m a w → ∃ rest, findLabel c l = some rest ∧ rest.wp P (jumps (fun l' a' w' => ∃ m', J l' m' a' w' ∧ m' < m) Q) a w) : (Code.scope c).wp P Q a w := by
  intro b k cs
  have key : ∀ m l a w, J l m a w → ∀ rest, findLabel c l = some rest → ∃ e a' w', Q e a' w' ∧ Arrives P (lone (b.at a (.code rest :: .inScope c :: k)) cs w) b k cs e a' w' := by
    intro m
    induction m using Nat.strongRecOn with
    | _ m ih =>
      intro l a w hJ rest hr
      obtain ⟨rest', hr', hp⟩ := pass l m a w hJ
      rw [hr] at hr'
      cases hr'
      obtain ⟨e, a₁, w₁, hq, harr⟩ := hp b (.inScope c :: k) cs
      cases e with
      | normal => exact ⟨.normal, a₁, w₁, hq, Steps.trans harr (.one step_inScope)⟩
      | exit id => exact ⟨.exit id, a₁, w₁, hq, fun k' hk => harr k' (by simp [exitTo, hk])⟩
      | goto l' =>
        obtain ⟨m', hJ', hlt⟩ := hq
        obtain ⟨r', hr', _⟩ := pass l' m' a₁ w₁ hJ'
        obtain ⟨e₂, a₂, w₂, hq₂, harr₂⟩ := ih m' hlt l' a₁ w₁ hJ' r' hr'
        have hg : gotoIn l' (.inScope c :: k) = some (.code r' :: .inScope c :: k) := by simp [gotoIn, hr']
        exact ⟨e₂, a₂, w₂, hq₂, .of_steps (harr _ hg) harr₂⟩
      | ret => exact ⟨_, a₁, w₁, hq, harr⟩
      | panic ch => exact ⟨_, a₁, w₁, hq, harr⟩
      | outgrown => exact ⟨_, a₁, w₁, hq, harr⟩
  obtain ⟨e, a₁, w₁, hq, harr⟩ := first b (.inScope c :: k) cs
  cases e with
  | normal => exact ⟨.normal, a₁, w₁, hq, .head step_scope (Steps.trans harr (.one step_inScope))⟩
  | exit id => exact ⟨.exit id, a₁, w₁, hq, fun k' hk => .head step_scope (harr k' (by simp [exitTo, hk]))⟩
  | goto l' =>
    obtain ⟨m', hJ'⟩ := hq
    obtain ⟨r', hr', _⟩ := pass l' m' a₁ w₁ hJ'
    obtain ⟨e₂, a₂, w₂, hq₂, harr₂⟩ := key m' l' a₁ w₁ hJ' r' hr'
    have hg : gotoIn l' (.inScope c :: k) = some (.code r' :: .inScope c :: k) := by simp [gotoIn, hr']
    exact ⟨e₂, a₂, w₂, hq₂, .of_steps (.head step_scope (harr _ hg)) harr₂⟩
  | ret => exact ⟨_, a₁, w₁, hq, .of_steps (.one step_scope) harr⟩
  | panic ch => exact ⟨_, a₁, w₁, hq, .of_steps (.one step_scope) harr⟩
  | outgrown => exact ⟨_, a₁, w₁, hq, .of_steps (.one step_scope) harr⟩

/-- the frame at a label: the scanner, the bytes that are left, what was told -/
def FrT (g : Nat) (bv tv : Value) (a : Act) : Prop := ∃ u2 u3 u6 u7 u8 u9 u10 u11 u12 u13 u14 u15 u16 u17 u18 u19 u20 u21 u22 u23 u24 u25 u26 u27 u28 u29 u30 u31 u32 u33 u34 u35 u36 u37 u38 u39 u40 u41 u42 u43 u44 u45 u46 u47 u48 u49 u50 u51 u52 u53 u54 u55 u56 u57 u58 u59 u60 u61 u62 u63 u64 u65 u66 u67 u68 u69 u70 u71 u72 u73 u74 u75 u76 u77 u78 u79 u80 u81 u82 : Value, a = { tmps := #[.pointer (some ⟨g, 0, none⟩), bv, u2, u3, .slice none 0 0, tv, u6, u7, u8, u9, u10, u11, u12, u13, u14, u15, u16, u17, u18, u19, u20, u21, u22, u23, u24, u25, u26, u27, u28, u29, u30, u31, u32, u33, u34, u35, u36, u37, u38, u39, u40, u41, u42, u43, u44, u45, u46, u47, u48, u49, u50, u51, u52, u53, u54, u55, u56, u57, u58, u59, u60, u61, u62, u63, u64, u65, u66, u67, u68, u69, u70, u71, u72, u73, u74, u75, u76, u77, u78, u79, u80, u81, u82], defers := [] }
/-- what holds of what is held and of the bytes that are left, at each label -/
def AtL (l : Nat) (h b : List Int) : Prop :=
  match l with
  | 0 => h = []
  | 1 => prop h = true ∧ h.length = 1
  | 2 => prop h = true ∧ 2 ≤ h.length
  | 3 => ∃ x r, b = x :: r ∧ whole (h ++ [x]) = true ∧ stepS h x = ([(value (h ++ [x]), h.length + 1, true)], [])
  | 4 => prop h = true ∧ ∃ x r, b = x :: r ∧ fits h x = true
  | 5 => prop h = true ∧ ∃ x r, b = x :: r ∧ fits h x = false
  | _ => False
def rank (l : Nat) : Nat := match l with | 0 => 1 | 1 => 3 | 2 => 3 | 3 => 0 | _ => 2
/-- the state of memory: w0: at the call -/
structure Mem (g : Nat) (fed : Int) (w0 : World) (h b : List Int) (ts : List Tri) (a0 : Option Addr) (cap : Nat) (v : Value) (w : World) : Prop where
  sca : Sca w g h fed
  scf : Scf w0.heap.size g w0 w
  row : RT w0.heap.size v ts w
  isb : IsB w0 a0 cap b
  blk : ∀ a, a0 = some a → a.block < w0.heap.size ∧ a.block ≠ g
  tab0 : Tab w0
  gne : g ≠ 0
  len : ts.length + h.length + b.length ≤ 4194000
  low : g < w0.heap.size
def J (g : Nat) (fed : Int) (w0 : World) (T : List Tri) (H : List Int) (l m : Nat) (a : Act) (w : World) : Prop :=
  ∃ (h b : List Int) (ts : List Tri) (a0 : Option Addr) (cap : Nat) (v : Value), FrT g (.slice a0 b.length cap) v a ∧ m = 4 * b.length + rank l ∧ Hid (Mem g fed w0 h b ts a0 cap v w) ∧ AtL l h b ∧
    Hid (ts ++ (scanS h b).1 = T ∧ (scanS h b).2 = H)
def JN (g : Nat) (fed : Int) (w0 : World) (T : List Tri) (H : List Int) (m l : Nat) (a : Act) (w : World) : Prop := ∃ m', J g fed w0 T H l m' a w ∧ m' < m
/-- what take answers -/
def TakeR (g : Nat) (fed : Int) (w0 : World) (T : List Tri) (H : List Int) (e : Ending) (w : World) : Prop := ∃ v, e = .returned v ∧ RT w0.heap.size v T w ∧ Sca w g H fed ∧ Scf w0.heap.size g w0 w
def scopeOf (f : Func) : Code := match f.body with | some (.seq _ (.scope c)) => c | _ => .skip
theorem Mem.ret {g : Nat} {fed : Int} {w0 w : World} {h : List Int} {ts T : List Tri} {H : List Int} {a0 : Option Addr} {cap : Nat} {v : Value} (hm : Mem g fed w0 h [] ts a0 cap v w) (hs : ts ++ (scanS h []).1 = T ∧ (scanS h []).2 = H) : TakeR g fed w0 T H (.returned v) w := by
  obtain ⟨rfl, rfl⟩ := hs
  simp only [scanS, List.append_nil]
  exact ⟨v, rfl, hm.row, hm.sca, hm.scf⟩
theorem Mem.tab {g : Nat} {fed : Int} {w0 w : World} {h b : List Int} {ts : List Tri} {a0 : Option Addr} {cap : Nat} {v : Value} (hm : Mem g fed w0 h b ts a0 cap v w) : Tab w := hm.tab0.scf hm.scf hm.tab0.size hm.gne
theorem Mem.head {g : Nat} {fed : Int} {w0 w : World} {h : List Int} {x : Int} {r : List Int} {ts : List Tri} {a0 : Option Addr} {cap : Nat} {v : Value} (hm : Mem g fed w0 h (x :: r) ts a0 cap v w) :
    ∃ gb off, a0 = some ⟨gb, off, none⟩ ∧ w.cell? ⟨gb, off, none⟩ = some (.int .u8 x) ∧ (0 ≤ x ∧ x ≤ 255) ∧ r.length + 1 ≤ cap ∧ r.length + 1 ≤ 140737488351232 ∧ gb < w0.heap.size ∧ gb ≠ g := by
  obtain ⟨h1, h2, h3, h4⟩ := hm.isb
  rcases h3 with h3 | ⟨gb, off, rfl, hL⟩
  · cases h3
  · have hb := hm.blk _ rfl
    exact ⟨gb, off, rfl, (hL.same (hm.scf.block gb hb.1 hb.2)).head.1, hL.head.2, h1, h2, hb.1, hb.2⟩
theorem Mem.next {g : Nat} {fed : Int} {w0 w w' : World} {h h' : List Int} {x : Int} {r : List Int} {ts ts' : List Tri} {gb off cap : Nat} {v v' : Value} (hm : Mem g fed w0 h (x :: r) ts (some ⟨gb, off, none⟩) cap v w)
    (s : Sca w' g h' fed) (f : Scf w0.heap.size g w0 w') (r' : RT w0.heap.size v' ts' w') (hl : ts'.length + h'.length ≤ ts.length + h.length + 1) :
    Mem g fed w0 h' r ts' (if cap = 1 then some ⟨gb, off, none⟩ else some ⟨gb, off + 1, none⟩) (cap - 1) v' w' := by
  obtain ⟨h1, h2, h3, h4⟩ := hm.isb
  have hb := hm.blk _ rfl
  have hl0 := hm.len
  simp only [List.length_cons] at h1 h2 hl0
  have hL : Lies w0 gb off (x :: r) := by
    rcases h3 with h3 | ⟨gb', off', e, hL⟩
    · cases h3
    · cases e; exact hL
  refine ⟨s, f, r', ⟨by omega, by omega, Bs.from1 h1 hL, fun y hy => h4 y (List.mem_cons_of_mem _ hy)⟩, fun a ha => ?_, hm.tab0, hm.gne, by omega, hm.low⟩
  split at ha <;> cases ha <;> exact hb
theorem Mem.stay {g : Nat} {fed : Int} {w0 w w' : World} {h h' b : List Int} {ts ts' : List Tri} {a0 : Option Addr} {cap : Nat} {v v' : Value} (hm : Mem g fed w0 h b ts a0 cap v w)
    (s : Sca w' g h' fed) (f : Scf w0.heap.size g w0 w') (r' : RT w0.heap.size v' ts' w') (hl : ts'.length + h'.length ≤ ts.length + h.length) : Mem g fed w0 h' b ts' a0 cap v' w' :=
  ⟨s, f, r', hm.isb, hm.blk, hm.tab0, hm.gne, by have := hm.len; omega, hm.low⟩
theorem Mem.drew {g : Nat} {fed : Int} {w0 w : World} {h b : List Int} {ts : List Tri} {a0 : Option Addr} {cap : Nat} {v : Value} (hm : Mem g fed w0 h b ts a0 cap v w) (n : Nat) : Mem g fed w0 h b ts a0 cap v (w.drewN n) :=
  hm.stay hm.sca (hm.scf.drewN n) hm.row (Nat.le_refl _)
theorem RT.scf {B g : Nat} {v : Value} {ts : List Tri} {W W' : World} (h : RT B v ts W) (hb : Scf W.heap.size g W W') (hg : g < B) : RT B v ts W' := h.same fun k hk hk' => hb.block k hk' (by omega)
theorem RT.pushw {B : Nat} {v : Value} {ts : List Tri} {W : World} (h : RT B v ts W) (r : Int) (n : Nat) (hn : ts.length ≤ 4194304) (hB : B ≤ W.heap.size) :
    ∃ g k W', (Builtin.append_ #[30, 30] 30 #[v, .slice (some ⟨W.heap.size, 0, none⟩) 1 1]).run Tryd.prog (W.alloc (.cells #[.int .i32 r, .int .i64 ((n : Int) + 1), .bool true] 42)) = .ok (.slice (some ⟨g, 0, none⟩) (ts.length + 1) k) W' ∧
      RT B (.slice (some ⟨g, 0, none⟩) (ts.length + 1) k) (ts ++ [(r, n + 1, true)]) W' ∧ Below B W W' := h.push r (n + 1) true hn hB
end Go.Proofs.YtpgipahlhbkjjaaDoor
