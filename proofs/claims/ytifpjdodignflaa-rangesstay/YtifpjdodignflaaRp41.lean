/- Layer 16: what the law's play keeps; tells (written by wip/tools/rgs.py). · Layer 16: a script of operations in memory. · Layer 16: what the law's play keeps (written by wip/tools/rgs.py). · Rows of one's own that are grown: what lay there stays, also under the old value. -/
import Derived.Test.YtifpjdodignflaaRp40
import Derived.Test.YtifpjdodignflaaRp29
import Derived.Test.YtifpjdodignflaaProg
import Derived.WalkKit
import Derived.Below
import Derived.Maps.AppendAt
import Derived.Carry
import Derived.ChangeAt

section
namespace Go.Proofs.Ytifpjdodignflaa
open Go.ChangeShapes Go.WideShapes Go.ChangeAt Go.RowKit
attribute [local go_sem] Oper.semAt_some

theorem StR.cov {X : World} {g : Nat} {n : Int} {L : List Rg} {a : Option Addr} {D : List Rg} (h : StR X g n L a D) : (covL D).length ≤ 1048576 := by
  have h1 := cov_len D []
  have h2 := h.l
  simp only [List.length_nil] at h1
  unfold covL
  omega
/-- both states, and the document's in a block -/
structure ScR (w wx : World) (G g : Nat) (n : Int) (L : List Rg) (a : Option Addr) (c : Nat) (D : List Rg) : Prop where
  s : StR wx g n L a D
  k : Cls wx G 30 #[.int .i64 n, .slice a D.length c]
  b : Below w.heap.size w wx
  g : w.heap.size ≤ G
theorem ScR.on {w wx wy : World} {G g : Nat} {n : Int} {L : List Rg} {a : Option Addr} {c : Nat} {D : List Rg} (h : ScR w wx G g n L a c D) (hb : Below wx.heap.size wx wy) : ScR w wy G g n L a c D := ⟨h.s.below hb (Nat.le_refl _), h.k.below hb h.k.lt, h.b.trans (hb.mono h.b.size), h.g⟩
set_option maxRecDepth 100000 in
set_option maxHeartbeats 8000000 in
theorem tells_at (g : Nat) (n : Int) (L : List Rg) (a : Option Addr) (c : Nat) (D : List Rg) (X : World) (h : StR X g n L a D) :
    Calls Try.prog 14 #[.pointer (some ⟨g, 0, none⟩), rsV n a D.length c] X fun y X' => y = .returned (.bool true) ∧ Below X.heap.size X X' := by
  have b1 := (Below.refl X.heap.size X).alloc (Nat.le_refl _) (.cells #[.int .i64 n, .slice a D.length c] 30)
  have HJ : Hid (ScR X (X.alloc (.cells #[.int .i64 n, .slice a D.length c] 30)) X.heap.size g n L a c D) := hide ⟨h.below b1 (Nat.le_refl _), Cls.new X 30 _, b1, Nat.le_refl _⟩
  unfold rsV
  clear b1 h
  go_enter Try.func14, Try.ntmps14
  go_upto_region 1 with fail
  generalize X.alloc (.cells #[.int .i64 n, .slice a D.length c] 30) = w1 at *
  have HJD := hide ((unhide HJ).on (Below.refl w1.heap.size w1).drew)
  have HT1 := hide (GLen_at g n L w1.drew (unhide HJD).s.m)
  refine regionL (S := fun z => z.cell? ⟨X.heap.size, 0, none⟩ = some (.int .i64 n) ∧ z.cell? ⟨X.heap.size, 1, none⟩ = some (.slice a D.length c)) (fun _ => false) (by kernel_rfl) ?_
  refine anyL_take (i := 0) (v := ?vtl0) rfl (by kernel_rfl) (by kernel_rfl) (by kernel_rfl) (by kernel_rfl) (fun _ _ _ h => h) (Or.inl ⟨by rfl, ?htl0⟩) (clsR_two (unhide HJD).k) ?_
  case htl0 => (intro w hSw; (try dsimp only at hSw); go_simp) <;> with_reducible rfl
  simp only [Act.put, List.getElem_toArray, List.getElem_cons_zero, List.setIfInBounds_toArray, List.set_cons_zero, List.set_cons_succ]
  refine anyL_take (i := 2) (v := ?vtl1) rfl (by kernel_rfl) (by kernel_rfl) (by kernel_rfl) (by kernel_rfl) (fun _ _ _ h => h) (Or.inl ⟨by rfl, ?htl1⟩) (clsR_two (unhide HJD).k) ?_
  case htl1 => (intro w hSw; (try dsimp only at hSw); go_simp) <;> with_reducible rfl
  simp only [Act.put, List.getElem_toArray, List.getElem_cons_zero, List.getElem_cons_succ, List.setIfInBounds_toArray, List.set_cons_zero, List.set_cons_succ]
  refine anyL_take (i := 3) (v := ?vtl2) rfl (by kernel_rfl) (by kernel_rfl) (by kernel_rfl) (by kernel_rfl) (fun _ _ _ h => h) (Or.inl ⟨by rfl, ?htl2⟩) (clsR_two (unhide HJD).k) ?_
  case htl2 => (intro w hSw; (try dsimp only at hSw); go_simp) <;> with_reducible rfl
  simp only [Act.put, List.getElem_toArray, List.getElem_cons_zero, List.getElem_cons_succ, List.setIfInBounds_toArray, List.set_cons_zero, List.set_cons_succ]
  refine anyL_ready (rs := [1]) (by kernel_rfl) (by simp) ?_
  refine AllL.cons rfl (fun K hK => ?_) AllL.nil
  go_simp
  refine (unhide HT1).mono ?_
  rintro y v1 ⟨rfl, x1⟩
  have JV1 := hide ((unhide HJD).on x1)
  have HT2 := hide (GList_at g n L v1 (unhide JV1).s.m (unhide JV1).s.len2)
  refine unhide hK _ _ (fun _ => clsR_two (unhide JV1).k) ?_
  clear hK K HT1 x1
  refine anyL_take (i := 4) (v := ?vtl3) rfl (by kernel_rfl) (by kernel_rfl) (by kernel_rfl) (by kernel_rfl) (fun _ _ _ h => h) (Or.inl ⟨by rfl, ?htl3⟩) (clsR_two (unhide JV1).k) ?_
  case htl3 => (intro w hSw; (try dsimp only at hSw); go_simp) <;> with_reducible rfl
  simp only [Act.put, List.getElem_toArray, List.getElem_cons_zero, List.getElem_cons_succ, List.setIfInBounds_toArray, List.set_cons_zero, List.set_cons_succ]
  refine anyL_take (i := 5) (v := ?vtl4) rfl (by kernel_rfl) (by kernel_rfl) (by kernel_rfl) (by kernel_rfl) (fun _ _ _ h => h) (Or.inl ⟨by rfl, ?htl4⟩) (clsR_two (unhide JV1).k) ?_
  case htl4 => (intro w hSw; (try dsimp only at hSw); go_simp) <;> with_reducible rfl
  simp only [Act.put, List.getElem_toArray, List.getElem_cons_zero, List.getElem_cons_succ, List.setIfInBounds_toArray, List.set_cons_zero, List.set_cons_succ]
  refine anyL_take (i := 6) (v := ?vtl5) rfl (by kernel_rfl) (by kernel_rfl) (by kernel_rfl) (by kernel_rfl) (fun _ _ _ h => h) (Or.inl ⟨by rfl, ?htl5⟩) (clsR_two (unhide JV1).k) ?_
  case htl5 => (intro w hSw; (try dsimp only at hSw); go_simp) <;> with_reducible rfl
  simp only [Act.put, List.getElem_toArray, List.getElem_cons_zero, List.getElem_cons_succ, List.setIfInBounds_toArray, List.set_cons_zero, List.set_cons_succ]
  refine anyL_take (i := 8) (v := ?vtl6) rfl (by kernel_rfl) (by kernel_rfl) (by kernel_rfl) (by kernel_rfl) (fun _ _ _ h => h) (Or.inl ⟨by rfl, ?htl6⟩) (clsR_two (unhide JV1).k) ?_
  case htl6 => (intro w hSw; (try dsimp only at hSw); go_simp) <;> with_reducible rfl
  simp only [Act.put, List.getElem_toArray, List.getElem_cons_zero, List.getElem_cons_succ, List.setIfInBounds_toArray, List.set_cons_zero, List.set_cons_succ]
  refine anyL_take (i := 9) (v := ?vtl7) rfl (by kernel_rfl) (by kernel_rfl) (by kernel_rfl) (by kernel_rfl) (fun _ _ _ h => h) (Or.inl ⟨by rfl, ?htl7⟩) (clsR_two (unhide JV1).k) ?_
  case htl7 => (intro w hSw; (try dsimp only at hSw); go_simp) <;> with_reducible rfl
  simp only [Act.put, List.getElem_toArray, List.getElem_cons_zero, List.getElem_cons_succ, List.setIfInBounds_toArray, List.set_cons_zero, List.set_cons_succ]
  refine anyL_ready (rs := [7]) (by kernel_rfl) (by simp) ?_
  refine AllL.cons rfl (fun K hK => ?_) AllL.nil
  go_simp
  refine (unhide HT2).mono ?_
  rintro y v2 ⟨a5, c5, E, rfl, p5, s5, o5, x5⟩
  have e5 : D = E := ((unhide JV1).s.list p5 s5).symm
  subst e5
  have JV2 := hide ((unhide JV1).on x5)
  obtain ⟨_, _, e6, i6, _⟩ := own_isRl o5
  injection e6 with e61 e62 e63
  subst e61
  have HT3 := hide (RSameR_at a5 c5 a c D v2 i6 (unhide JV2).s.k (unhide JV2).s.len3)
  refine unhide hK _ _ (fun _ => clsR_two (unhide JV2).k) ?_
  clear hK K HT2 x5 p5 s5 o5 i6 e62 e63
  refine anyL_ready (rs := [10]) (by kernel_rfl) (by simp) ?_
  refine AllL.cons rfl (fun K hK => ?_) AllL.nil
  go_simp
  refine (unhide HT3).mono ?_
  rintro y v3 ⟨rfl, x6⟩
  have JV3 := hide ((unhide JV2).on x6)
  have HT4 := hide (GCov_at g n L v3 (unhide JV3).s.m (unhide JV3).s.len2)
  refine unhide hK _ _ (fun _ => clsR_two (unhide JV3).k) ?_
  clear hK K HT3 x6
  refine anyL_take (i := 11) (v := ?vtl8) rfl (by kernel_rfl) (by kernel_rfl) (by kernel_rfl) (by kernel_rfl) (fun _ _ _ h => h) (Or.inl ⟨by rfl, ?htl8⟩) (clsR_two (unhide JV3).k) ?_
  case htl8 => (intro w hSw; (try dsimp only at hSw); go_simp) <;> with_reducible rfl
  simp only [Act.put, List.getElem_toArray, List.getElem_cons_zero, List.getElem_cons_succ, List.setIfInBounds_toArray, List.set_cons_zero, List.set_cons_succ]
  refine anyL_take (i := 12) (v := ?vtl9) rfl (by kernel_rfl) (by kernel_rfl) (by kernel_rfl) (by kernel_rfl) (fun _ _ _ h => h) (Or.inl ⟨by rfl, ?htl9⟩) (clsR_two (unhide JV3).k) ?_
  case htl9 => (intro w hSw; (try dsimp only at hSw); go_simp) <;> with_reducible rfl
  simp only [Act.put, List.getElem_toArray, List.getElem_cons_zero, List.getElem_cons_succ, List.setIfInBounds_toArray, List.set_cons_zero, List.set_cons_succ]
  refine anyL_take (i := 13) (v := ?vtl10) rfl (by kernel_rfl) (by kernel_rfl) (by kernel_rfl) (by kernel_rfl) (fun _ _ _ h => h) (Or.inl ⟨by rfl, ?htl10⟩) (clsR_two (unhide JV3).k) ?_
  case htl10 => (intro w hSw; (try dsimp only at hSw); go_simp) <;> with_reducible rfl
  simp only [Act.put, List.getElem_toArray, List.getElem_cons_zero, List.getElem_cons_succ, List.setIfInBounds_toArray, List.set_cons_zero, List.set_cons_succ]
  refine anyL_take (i := 15) (v := ?vtl11) rfl (by kernel_rfl) (by kernel_rfl) (by kernel_rfl) (by kernel_rfl) (fun _ _ _ h => h) (Or.inl ⟨by rfl, ?htl11⟩) (clsR_two (unhide JV3).k) ?_
  case htl11 => (intro w hSw; (try dsimp only at hSw); go_simp) <;> with_reducible rfl
  simp only [Act.put, List.getElem_toArray, List.getElem_cons_zero, List.getElem_cons_succ, List.setIfInBounds_toArray, List.set_cons_zero, List.set_cons_succ]
  refine anyL_ready (rs := [14]) (by kernel_rfl) (by simp) ?_
  refine AllL.cons rfl (fun K hK => ?_) AllL.nil
  go_simp
  refine (unhide HT4).mono ?_
  rintro y v4 ⟨a7, c7, E7, rfl, p7, s7, o7, x7⟩
  have e7 : D = E7 := ((unhide JV3).s.list p7 s7).symm
  subst e7
  have JV4 := hide ((unhide JV3).on x7)
  have HO7 := hide o7
  have HT5 := hide (RCoverR_at n a c D v4 (unhide JV4).s.k (unhide JV4).s.len3)
  unfold rsV at HT5
  refine unhide hK _ _ (fun _ => clsR_two (unhide JV4).k) ?_
  clear hK K HT4 x7 p7 s7 o7
  refine anyL_ready (rs := [16]) (by kernel_rfl) (by simp) ?_
  refine AllL.cons rfl (fun K hK => ?_) AllL.nil
  go_simp
  refine (unhide HT5).mono ?_
  rintro y v5 ⟨a8, c8, rfl, o8, x8⟩
  have JV5 := hide ((unhide JV4).on x8)
  have HT6 := hide (RSameHits_at a7 c7 a8 c8 (covL D) v5 (own_isHs (rowD_below (unhide HO7) x8 (Nat.le_refl _))) (own_isHs o8) (unhide JV5).s.cov)
  refine unhide hK _ _ (fun _ => clsR_two (unhide JV5).k) ?_
  clear hK K HT5 HO7 x8 o8
  refine anyL_ready (rs := [17]) (by kernel_rfl) (by simp) ?_
  refine AllL.cons rfl (fun K hK => ?_) AllL.nil
  go_simp
  refine (unhide HT6).mono ?_
  rintro y v6 ⟨rfl, x9⟩
  have JV6 := hide ((unhide JV5).on x9)
  refine unhide hK _ _ (fun _ => clsR_two (unhide JV6).k) ?_
  clear hK K HT6 x9
  refine anyL_take (i := 18) (v := ?vtl12) rfl (by kernel_rfl) (by kernel_rfl) (by kernel_rfl) (by kernel_rfl) (fun _ _ _ h => h) (Or.inl ⟨by rfl, ?htl12⟩) (clsR_two (unhide JV6).k) ?_
  case htl12 => (intro w hSw; (try dsimp only at hSw); go_simp) <;> with_reducible rfl
  simp only [Act.put, List.getElem_toArray, List.getElem_cons_zero, List.getElem_cons_succ, List.setIfInBounds_toArray, List.set_cons_zero, List.set_cons_succ]
  refine anyL_take (i := 19) (v := ?vtl13) rfl (by kernel_rfl) (by kernel_rfl) (by kernel_rfl) (by kernel_rfl) (fun _ _ _ h => h) (Or.inl ⟨by rfl, ?htl13⟩) (clsR_two (unhide JV6).k) ?_
  case htl13 => (intro w hSw; (try dsimp only at hSw); go_simp) <;> with_reducible rfl
  simp only [Act.put, List.getElem_toArray, List.getElem_cons_zero, List.getElem_cons_succ, List.setIfInBounds_toArray, List.set_cons_zero, List.set_cons_succ]
  refine anyL_done (by kernel_rfl) ?_ _
  go_wp2_with fail
  refine bodyPost_ret (results_tmp rfl _ _ _) rfl ⟨rfl, (unhide JV6).b⟩
end Go.Proofs.Ytifpjdodignflaa
end

section
namespace Go.Proofs.Ytifpjdodignflaa
open Go.ChangeShapes Go.WideShapes Go.ChangeAt Go.RowKit
attribute [local go_sem] Oper.semAt_some

/-- an operation of a script: its kind, its range, its delta -/
structure Oc where
  k : Int
  x : Rg
  a : Option Addr
  c : Nat
  d : List Dop
def ocZ : Oc := ⟨0, rgZ, none, 0, []⟩
instance : Inhabited Oc := ⟨ocZ⟩
def ocL (q : Oc) : List Value := [.int .i64 q.k, .string q.x.n, .int .i64 q.x.lo, .int .i64 q.x.hi, .int .i64 q.x.st, .int .i64 q.x.en, .slice q.a q.d.length q.c]
structure OcI (W : World) (y : Oc) : Prop where
  o : IsO W y.a y.d
  z : y.d = [] ∨ ∃ q, y.a = some q
  l : y.d.length * 32 ≤ 140737488355328
  t : ∀ o ∈ y.d, TbD o ∧ o.t.length ≤ 140737488355328
/-- a list of operations that lies there -/
def IsOc (W : World) (a : Option Addr) (l : List Oc) : Prop := (∀ y ∈ l, OcI W y) ∧ (l = [] ∨ ∃ g off, a = some ⟨g, off, none⟩ ∧ g < W.heap.size ∧ ∀ k, k < l.length → ∀ j, j < 7 → W.cell? ⟨g, off + k * 7 + j, none⟩ = (ocL (l.getD k ocZ))[j]?)
theorem OcI.below {W W' : World} {y : Oc} (h : OcI W y) (hb : Below W.heap.size W W') : OcI W' y := ⟨h.o.below hb (Nat.le_refl _), h.z, h.l, h.t⟩
theorem IsOc.at {W : World} {a : Option Addr} {l : List Oc} (h : IsOc W a l) {k : Nat} (hk : k < l.length) {W' : World} (hb : Below W.heap.size W W') : OcI W' (l.getD k ocZ) ∧ ∃ g off, a = some ⟨g, off, none⟩ ∧ g < W.heap.size ∧ ∀ j, j < 7 → W'.cell? ⟨g, off + k * 7 + j, none⟩ = (ocL (l.getD k ocZ))[j]? := by
  have hm : l.getD k ocZ ∈ l := by rw [List.getD_eq_getElem?_getD, List.getElem?_eq_getElem hk]; exact List.getElem_mem hk
  refine ⟨(h.1 _ hm).below hb, ?_⟩
  rcases h.2 with h2 | ⟨g, off, e, hg, hc⟩
  · rw [h2] at hk; simp at hk
  · exact ⟨g, off, e, hg, fun j hj => (hb.cell (p := ⟨g, off + k * 7 + j, none⟩) hg).trans (hc k hk j hj)⟩
end Go.Proofs.Ytifpjdodignflaa
end

section
namespace Go.Proofs.Ytifpjdodignflaa
open Go.ChangeShapes Go.WideShapes Go.ChangeAt Go.RowKit
attribute [local go_sem] Oper.semAt_some

/-- the value of a step of a script -/
def ocA (kd : Int) (x : Rg) (ad : Option Addr) (dl cd : Nat) : Value := .agg #[.int .i64 kd, .string x.n, .int .i64 x.lo, .int .i64 x.hi, .int .i64 x.st, .int .i64 x.en, .slice ad dl cd]
/-- what play answers -/
def PlQ (X : World) (y : Ending) (X' : World) : Prop := ∃ (g' : Nat) (n' : Int) (L' : List Rg) (a' : Option Addr) (c' : Nat) (D' : List Rg), y = .returned (.tuple #[.pointer (some ⟨g', 0, none⟩), rsV n' a' D'.length c', .bool true]) ∧ StR X' g' n' L' a' D' ∧ Below X.heap.size X X'
structure PlJ (X wz : World) (B1 B2 B3 g : Nat) (n : Int) (L : List Rg) (a : Option Addr) (c : Nat) (D : List Rg) (kd : Int) (x : Rg) (ad : Option Addr) (cd : Nat) (d : List Dop) (u v : Value) : Prop where
  s : StR wz g n L a D
  k0 : Cls wz X.heap.size 30 #[.int .i64 n, .slice a D.length c]
  k1 : Cls wz B1 41 #[.int .i64 kd, .string x.n, .int .i64 x.lo, .int .i64 x.hi, .int .i64 x.st, .int .i64 x.en, .slice ad d.length cd]
  k2 : Cls wz B2 30 #[.int .i64 0, .slice none 0 0]
  k3 : Cls wz B3 30 #[u, v]
  b : Below X.heap.size X wz
  o : IsO wz ad d
  ne : X.heap.size < B1 ∧ B1 < B2 ∧ B2 < B3
theorem PlJ.on {X wz : World} {B1 B2 B3 g : Nat} {n : Int} {L : List Rg} {a : Option Addr} {c : Nat} {D : List Rg} {kd : Int} {x : Rg} {ad : Option Addr} {cd : Nat} {d : List Dop} {u v : Value} (h : PlJ X wz B1 B2 B3 g n L a c D kd x ad cd d u v) {wy : World} (hb : Below wz.heap.size wz wy) : PlJ X wy B1 B2 B3 g n L a c D kd x ad cd d u v :=
  ⟨h.s.below hb (Nat.le_refl _), h.k0.below hb h.k0.lt, h.k1.below hb h.k1.lt, h.k2.below hb h.k2.lt, h.k3.below hb h.k3.lt, h.b.trans (hb.mono h.b.size), h.o.below hb (Nat.le_refl _), h.ne⟩
theorem PlJ.cells {X wz : World} {B1 B2 B3 g : Nat} {n : Int} {L : List Rg} {a : Option Addr} {c : Nat} {D : List Rg} {kd : Int} {x : Rg} {ad : Option Addr} {cd : Nat} {d : List Dop} {u v : Value} (h : PlJ X wz B1 B2 B3 g n L a c D kd x ad cd d u v) : wz.cell? ⟨X.heap.size, 0, none⟩ = some (.int .i64 n) ∧ wz.cell? ⟨X.heap.size, 1, none⟩ = some (.slice a D.length c) ∧ wz.cell? ⟨B1, 0, none⟩ = some (.int .i64 kd) ∧ wz.cell? ⟨B1, 1, none⟩ = some (.string x.n) ∧ wz.cell? ⟨B1, 2, none⟩ = some (.int .i64 x.lo) ∧ wz.cell? ⟨B1, 3, none⟩ = some (.int .i64 x.hi) ∧ wz.cell? ⟨B1, 4, none⟩ = some (.int .i64 x.st) ∧ wz.cell? ⟨B1, 5, none⟩ = some (.int .i64 x.en) ∧ wz.cell? ⟨B1, 6, none⟩ = some (.slice ad d.length cd) :=
  ⟨(h.k0.cell 0).trans rfl, (h.k0.cell 1).trans rfl, (h.k1.cell 0).trans rfl, (h.k1.cell 1).trans rfl, (h.k1.cell 2).trans rfl, (h.k1.cell 3).trans rfl, (h.k1.cell 4).trans rfl, (h.k1.cell 5).trans rfl, (h.k1.cell 6).trans rfl⟩
theorem PlJ.next {X wz : World} {B1 B2 B3 g : Nat} {n : Int} {L : List Rg} {a : Option Addr} {c : Nat} {D : List Rg} {kd : Int} {x : Rg} {ad : Option Addr} {cd : Nat} {d : List Dop} {u v : Value} (h : PlJ X wz B1 B2 B3 g n L a c D kd x ad cd d u v) : wz.cell? ⟨B3, 0, none⟩ = some u ∧ wz.cell? ⟨B3, 1, none⟩ = some v ∧ wz.frozen? ⟨B3, 0, none⟩ = false ∧ wz.frozen? ⟨B3, 1, none⟩ = false := ⟨(h.k3.cell 0).trans rfl, (h.k3.cell 1).trans rfl, h.k3.frozen 0, h.k3.frozen 1⟩
theorem PlJ.res {X wz : World} {B1 B2 B3 g : Nat} {n : Int} {L : List Rg} {a : Option Addr} {c : Nat} {D : List Rg} {kd : Int} {x : Rg} {ad : Option Addr} {cd : Nat} {d : List Dop} {u v : Value} (h : PlJ X wz B1 B2 B3 g n L a c D kd x ad cd d u v) : wz.cell? ⟨B2, 0, none⟩ = some (.int .i64 0) ∧ wz.cell? ⟨B2, 1, none⟩ = some (.slice none 0 0) ∧ wz.frozen? ⟨B2, 0, none⟩ = false ∧ wz.frozen? ⟨B2, 1, none⟩ = false := ⟨(h.k2.cell 0).trans rfl, (h.k2.cell 1).trans rfl, h.k2.frozen 0, h.k2.frozen 1⟩
/-- a store into the block for what comes next -/
theorem PlJ.put3 {X wz : World} {B1 B2 B3 g : Nat} {n : Int} {L : List Rg} {a : Option Addr} {c : Nat} {D : List Rg} {kd : Int} {x : Rg} {ad : Option Addr} {cd : Nat} {d : List Dop} {u v : Value} (h : PlJ X wz B1 B2 B3 g n L a c D kd x ad cd d u v) (hO : IsO X ad d) (u' v' : Value) : PlJ X ((wz.setCell ⟨B3, 0, none⟩ u').setCell ⟨B3, 1, none⟩ v') B1 B2 B3 g n L a c D kd x ad cd d u' v' := by
  obtain ⟨n1, n2, n3⟩ := h.ne
  have hb := clsR_put2 h.k3 u' v' h.b (show X.heap.size ≤ B3 by omega)
  exact ⟨h.s.put2 h.k3 u' v', ClsR.apart2 h.k0 (by omega) u' v', ClsR.apart2 h.k1 (by omega) u' v', ClsR.apart2 h.k2 (by omega) u' v', hb.1, hb.2, hO.below hb.2 (Nat.le_refl _), h.ne⟩
/-- a store into the result's block -/
theorem PlJ.put2 {X wz : World} {B1 B2 B3 g : Nat} {n : Int} {L : List Rg} {a : Option Addr} {c : Nat} {D : List Rg} {kd : Int} {x : Rg} {ad : Option Addr} {cd : Nat} {d : List Dop} {u v : Value} (h : PlJ X wz B1 B2 B3 g n L a c D kd x ad cd d u v) (p q : Value) : (Cls ((wz.setCell ⟨B2, 0, none⟩ p).setCell ⟨B2, 1, none⟩ q) B2 30 #[p, q] ∧ Below X.heap.size X ((wz.setCell ⟨B2, 0, none⟩ p).setCell ⟨B2, 1, none⟩ q)) ∧ Cls ((wz.setCell ⟨B2, 0, none⟩ p).setCell ⟨B2, 1, none⟩ q) X.heap.size 30 #[.int .i64 n, .slice a D.length c] ∧ Cls ((wz.setCell ⟨B2, 0, none⟩ p).setCell ⟨B2, 1, none⟩ q) B3 30 #[u, v] ∧ StR ((wz.setCell ⟨B2, 0, none⟩ p).setCell ⟨B2, 1, none⟩ q) g n L a D := by
  obtain ⟨n1, n2, n3⟩ := h.ne
  exact ⟨clsR_put2 h.k2 p q h.b (show X.heap.size ≤ B2 by omega), ClsR.apart2 h.k0 (by omega) p q, ClsR.apart2 h.k3 (by omega) p q, h.s.put2 h.k2 p q⟩
theorem PlJ.start (X : World) (g : Nat) (n : Int) (L : List Rg) (a : Option Addr) (c : Nat) (D : List Rg) (kd : Int) (x : Rg) (ad : Option Addr) (cd : Nat) (d : List Dop) (h : StR X g n L a D) (ho : IsO X ad d) : PlJ X ((((X.alloc (.cells #[.int .i64 n, .slice a D.length c] 30)).alloc (.cells #[.int .i64 kd, .string x.n, .int .i64 x.lo, .int .i64 x.hi, .int .i64 x.st, .int .i64 x.en, .slice ad d.length cd] 41)).alloc (.cells #[.int .i64 0, .slice none 0 0] 30)).alloc (.cells #[.int .i64 0, .slice none 0 0] 30)) (X.heap.size + 1) (X.heap.size + 1 + 1) (X.heap.size + 1 + 1 + 1) g n L a c D kd x ad cd d (.int .i64 0) (.slice none 0 0) := by
  have b1 := (Below.refl X.heap.size X).alloc (Nat.le_refl _) (.cells #[.int .i64 n, .slice a D.length c] 30)
  have b2 := b1.alloc b1.size (.cells #[.int .i64 kd, .string x.n, .int .i64 x.lo, .int .i64 x.hi, .int .i64 x.st, .int .i64 x.en, .slice ad d.length cd] 41)
  have b3 := b2.alloc b2.size (.cells #[.int .i64 0, .slice none 0 0] 30)
  have b4 := b3.alloc b3.size (.cells #[.int .i64 0, .slice none 0 0] 30)
  have k4 := (((Cls.new X 30 #[.int .i64 n, .slice a D.length c]).alloc (.cells #[.int .i64 kd, .string x.n, .int .i64 x.lo, .int .i64 x.hi, .int .i64 x.st, .int .i64 x.en, .slice ad d.length cd] 41)).alloc (.cells #[.int .i64 0, .slice none 0 0] 30)).alloc (.cells #[.int .i64 0, .slice none 0 0] 30)
  have k5 := ((Cls.new (X.alloc (.cells #[.int .i64 n, .slice a D.length c] 30)) 41 #[.int .i64 kd, .string x.n, .int .i64 x.lo, .int .i64 x.hi, .int .i64 x.st, .int .i64 x.en, .slice ad d.length cd]).alloc (.cells #[.int .i64 0, .slice none 0 0] 30)).alloc (.cells #[.int .i64 0, .slice none 0 0] 30)
  have k7 := (Cls.new ((X.alloc (.cells #[.int .i64 n, .slice a D.length c] 30)).alloc (.cells #[.int .i64 kd, .string x.n, .int .i64 x.lo, .int .i64 x.hi, .int .i64 x.st, .int .i64 x.en, .slice ad d.length cd] 41)) 30 #[.int .i64 0, .slice none 0 0]).alloc (.cells #[.int .i64 0, .slice none 0 0] 30)
  have k11 := Cls.new (((X.alloc (.cells #[.int .i64 n, .slice a D.length c] 30)).alloc (.cells #[.int .i64 kd, .string x.n, .int .i64 x.lo, .int .i64 x.hi, .int .i64 x.st, .int .i64 x.en, .slice ad d.length cd] 41)).alloc (.cells #[.int .i64 0, .slice none 0 0] 30)) 30 #[.int .i64 0, .slice none 0 0]
  rw [World.size_alloc] at k5
  rw [World.size_alloc, World.size_alloc] at k7
  rw [World.size_alloc, World.size_alloc, World.size_alloc] at k11
  exact ⟨h.below b4 (Nat.le_refl _), k4, k5, k7, k11, b4, ho.below b4 (Nat.le_refl _), by omega⟩
end Go.Proofs.Ytifpjdodignflaa
end

section
namespace Go.Proofs.Ytifpjdodignflaa
open Go.ChangeShapes Go.WideShapes Go.ChangeAt Go.RowKit

section
variable {P : Program}
theorem rwk_cut {W : World} {B s n m c : Nat} {e : TypeId} {a : Option Addr} {xs ys : List Value} (h : W.ownsRow B e s (.slice a (n + m) c) (n + m) (xs ++ ys)) (hx : xs.length = n * s) (ha : a ≠ none) : W.ownsRow B e s (.slice a n c) n xs := by
  rcases h.2 with ⟨e1, _⟩ | ⟨g, cap, cur, e1, hb, hg, hn, hm, hs, ht⟩
  · injection e1 with e1; exact absurd e1 ha
  · cases e1
    refine ⟨hx, .inr ⟨g, c, cur, rfl, hb, hg, by omega, hm, hs, ?_⟩⟩
    have h2 := congrArg (List.take (n * s)) ht
    rw [List.take_take, Nat.min_eq_left (Nat.mul_le_mul_right _ (by omega)), ← hx, List.take_left] at h2
    rw [← hx]; exact h2
theorem push_kept (w : World) (base : Nat) (t ty e : TypeId) (i : TypeInfo) (z : Value) (size bytes : Nat) (ht : P.underlying t = some (.slice e)) (hi : P.info? e = some i) (hz : i.zero = some z)
    (hsize : i.size = size) (hby : i.bytes = bytes) (hzs : z.cells.size = size) (hsz : 0 < size)
    (v : Value) (n : Nat) (xs : List Value) (hown : w.ownsRow base e size v n xs)
    (a : Addr) (m c : Nat) (news : List Value) (hl : news.length = m * size) (hnews : ∀ j u, news[j]? = some u → w.cell? (a.add j) = some u) (h1 : ∀ u ∈ news, u.oneCell' = true)
    (h63 : n + m ≤ maxLen) (hbytes : (n + m) * bytes ≤ 140737488355328) (hbase : base ≤ w.heap.size) :
    ∃ v' w', (Builtin.append_ #[t, t] ty #[v, .slice (some a) m c]).run P w = .ok v' w' ∧ w'.ownsRow base e size v' (n + m) (xs ++ news) ∧ w'.ownsRow base e size v n xs ∧ w.grownBy w' v.ownBlock ∧
      ((∃ g c, v = .slice (some ⟨g, 0, none⟩) n c ∧ v' = .slice (some ⟨g, 0, none⟩) (n + m) c) ∨ v' = .slice none 0 0 ∨ v'.ownBlock = some w.heap.size) := by
  obtain ⟨v', w', hr, h2, h3, _, h5⟩ := run_append_own_at (P := P) w base t ty e i z size bytes ht hi hz hsize hby hzs hsz v n xs hown a m c news hl hnews h1 h63 hbytes hbase
  refine ⟨v', w', hr, h2, ?_⟩
  subst hsize
  subst hby
  rcases hown.2 with ⟨rfl, rfl⟩ | ⟨g, cap, cur, rfl, hbg, hg, hnc, hcm, hcs, htake⟩
  · refine ⟨⟨hown.1, .inl ⟨rfl, rfl⟩⟩, h3, .inr ?_⟩
    rcases h5 with h5 | h5
    · left
      rcases h2.2 with ⟨e1, _⟩ | ⟨g, cap, cur, e1, _⟩
      · exact e1
      · subst e1; cases h5
    · exact .inr h5
  · by_cases hroom : n + m ≤ cap
    · have hr2 := run_append_room (P := P) w t ty e i ht hi g n cap cur hg a m c news hl hnews h1 hroom (by rw [hl, hcs, ← Nat.add_mul]; exact Nat.mul_le_mul_right _ hroom)
      rw [hr] at hr2
      injection hr2 with e1 e2
      subst e1
      exact ⟨rwk_cut h2 hown.1 (by simp), h3, .inl ⟨g, cap, rfl, rfl⟩⟩
    · have hr2 := run_append_grow (P := P) w t ty e i z ht hi hz ⟨g, 0, none⟩ n cap xs hown.1 (hown.cells (g := g) rfl) a m c news hl hnews (by omega) (by simp only [maxLen] at h63; omega) (growslice_fits (by omega) hbytes)
      rw [hr] at hr2
      injection hr2 with e1 e2
      subst e2
      refine ⟨⟨hown.1, .inr ⟨g, cap, cur, rfl, hbg, ?_, hnc, hcm, hcs, htake⟩⟩, h3, .inr (.inr (by rw [e1]; rfl))⟩
      rw [← hg]
      exact heap_alloc_old w.drew _ (Array.getElem?_eq_some_iff.1 hg).1
/-- one cell of a row is written -/
theorem rwk_set {W : World} {B s n cap g : Nat} {e : TypeId} {xs : List Value} (h : W.ownsRow B e s (.slice (some ⟨g, 0, none⟩) n cap) n xs) (j : Nat) (u : Value) : (W.setCell ⟨g, j, none⟩ u).ownsRow B e s (.slice (some ⟨g, 0, none⟩) n cap) n (xs.set j u) := by
  rcases h.2 with ⟨e1, _⟩ | ⟨g', cap', cur, e1, hb, hg, hn, hm, hs, ht⟩
  · cases e1
  · cases e1
    refine ⟨by rw [List.length_set]; exact h.1, .inr ⟨g, cap, cur.setIfInBounds j u, rfl, hb, ?_, hn, hm, by rw [Array.size_setIfInBounds]; exact hs, ?_⟩⟩
    · have hl := (Array.getElem?_eq_some_iff.1 hg).1
      show (W.heap.modify g _)[g]? = _
      rw [Array.getElem?_eq_getElem (by rw [Array.size_modify]; exact hl), Array.getElem_modify_self]
      rw [Array.getElem?_eq_getElem hl] at hg
      rw [Option.some.inj hg]
      rfl
    · rw [Array.toList_setIfInBounds, List.take_set, ht]
/-- and how it is read -/
theorem rwk_cell {W : World} {B s n cap g : Nat} {e : TypeId} {xs : List Value} (h : W.ownsRow B e s (.slice (some ⟨g, 0, none⟩) n cap) n xs) (j : Nat) (hj : j < n * s) : W.cell? ⟨g, j, none⟩ = xs[j]? ∧ W.frozen? ⟨g, j, none⟩ = false := by
  rcases h.2 with ⟨e1, _⟩ | ⟨g', cap', cur, e1, hb, hg, hn, hm, hs, ht⟩
  · cases e1
  · cases e1
    refine ⟨?_, by simp [World.frozen?, hg]⟩
    rw [← ht, List.getElem?_take_of_lt hj]
    simp [World.cell?, hg]
/-- two rows do not share a block -/
def NB (a b : Value) : Prop := ∀ g, a.ownBlock = some g → b.ownBlock ≠ some g
theorem NB.symm {a b : Value} (h : NB a b) : NB b a := fun g h1 h2 => h g h2 h1
theorem rwk_other {W : World} {B s n cap g j : Nat} {e : TypeId} {v u : Value} {xs : List Value} (h : W.ownsRow B e s v n xs) (hne : NB (.slice (some ⟨g, 0, none⟩) 0 cap) v) : (W.setCell ⟨g, j, none⟩ u).ownsRow B e s v n xs := by
  refine World.ownsRow.kept (row := some g) h ⟨rfl, rfl, rfl, by simp [World.setCell], fun k hk hk' => ?_⟩ ?_
  · exact Below.heap_setCell W ⟨g, j, none⟩ u k (fun e => hk' (by rw [e]))
  · right; exact hne g rfl
end
end Go.Proofs.Ytifpjdodignflaa
end
