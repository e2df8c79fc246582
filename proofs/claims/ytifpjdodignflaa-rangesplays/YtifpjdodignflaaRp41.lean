/- Layer 16: what the law's play keeps; tells (written by wip/tools/rgs.py). · Layer 16: a script of operations in memory. · Layer 16: what the law's play keeps (written by wip/tools/rgs.py). · Layer 16: the law's play: Set (written by wip/tools/rgs.py). -/
import Derived.Test.YtifpjdodignflaaRp40
import Derived.Test.YtifpjdodignflaaRp29

section
namespace Go.Proofs.Ytifpjdodignflaa
open Go.ChangeShapes Go.WideShapes Go.ChangeAt Go.RowKit
attribute [local go_sem] Oper.semAt_some

theorem StR.cov {X : World} {g : Nat} {n : Int} {L : List Rg} {a : Option Addr} {D : List Rg} (h : StR X g n L a D) : (covL D).length ≤ 1048576 := by
  have h1 := cov_len D []
  have h2 := h.l
  simp only [List.length_nil] at h1
  unfold covL
  omega
/-- both states, and the document's in a block -/
structure ScR (w wx : World) (G g : Nat) (n : Int) (L : List Rg) (a : Option Addr) (c : Nat) (D : List Rg) : Prop where
  s : StR wx g n L a D
  k : Cls wx G 30 #[.int .i64 n, .slice a D.length c]
  b : Below w.heap.size w wx
  g : w.heap.size ≤ G
theorem ScR.on {w wx wy : World} {G g : Nat} {n : Int} {L : List Rg} {a : Option Addr} {c : Nat} {D : List Rg} (h : ScR w wx G g n L a c D) (hb : Below wx.heap.size wx wy) : ScR w wy G g n L a c D := ⟨h.s.below hb (Nat.le_refl _), h.k.below hb h.k.lt, h.b.trans (hb.mono h.b.size), h.g⟩
set_option maxRecDepth 100000 in
set_option maxHeartbeats 8000000 in
theorem tells_at (g : Nat) (n : Int) (L : List Rg) (a : Option Addr) (c : Nat) (D : List Rg) (X : World) (h : StR X g n L a D) :
    Calls Try.prog 14 #[.pointer (some ⟨g, 0, none⟩), rsV n a D.length c] X fun y X' => y = .returned (.bool true) ∧ Below X.heap.size X X' := by
  have b1 := (Below.refl X.heap.size X).alloc (Nat.le_refl _) (.cells #[.int .i64 n, .slice a D.length c] 30)
  have HJ : Hid (ScR X (X.alloc (.cells #[.int .i64 n, .slice a D.length c] 30)) X.heap.size g n L a c D) := hide ⟨h.below b1 (Nat.le_refl _), Cls.new X 30 _, b1, Nat.le_refl _⟩
  unfold rsV
  clear b1 h
  go_enter Try.func14, Try.ntmps14
  go_upto_region 1 with fail
  generalize X.alloc (.cells #[.int .i64 n, .slice a D.length c] 30) = w1 at *
  have HJD := hide ((unhide HJ).on (Below.refl w1.heap.size w1).drew)
  have HT1 := hide (GLen_at g n L w1.drew (unhide HJD).s.m)
  refine regionL (S := fun z => z.cell? ⟨X.heap.size, 0, none⟩ = some (.int .i64 n) ∧ z.cell? ⟨X.heap.size, 1, none⟩ = some (.slice a D.length c)) (fun _ => false) (by kernel_rfl) ?_
  refine anyL_take (i := 0) (v := ?vtl0) rfl (by kernel_rfl) (by kernel_rfl) (by kernel_rfl) (by kernel_rfl) (fun _ _ _ h => h) (Or.inl ⟨by rfl, ?htl0⟩) (clsR_two (unhide HJD).k) ?_
  case htl0 => (intro w hSw; (try dsimp only at hSw); go_simp) <;> with_reducible rfl
  simp only [Act.put, List.getElem_toArray, List.getElem_cons_zero, List.setIfInBounds_toArray, List.set_cons_zero, List.set_cons_succ]
  refine anyL_take (i := 2) (v := ?vtl1) rfl (by kernel_rfl) (by kernel_rfl) (by kernel_rfl) (by kernel_rfl) (fun _ _ _ h => h) (Or.inl ⟨by rfl, ?htl1⟩) (clsR_two (unhide HJD).k) ?_
  case htl1 => (intro w hSw; (try dsimp only at hSw); go_simp) <;> with_reducible rfl
  simp only [Act.put, List.getElem_toArray, List.getElem_cons_zero, List.getElem_cons_succ, List.setIfInBounds_toArray, List.set_cons_zero, List.set_cons_succ]
  refine anyL_take (i := 3) (v := ?vtl2) rfl (by kernel_rfl) (by kernel_rfl) (by kernel_rfl) (by kernel_rfl) (fun _ _ _ h => h) (Or.inl ⟨by rfl, ?htl2⟩) (clsR_two (unhide HJD).k) ?_
  case htl2 => (intro w hSw; (try dsimp only at hSw); go_simp) <;> with_reducible rfl
  simp only [Act.put, List.getElem_toArray, List.getElem_cons_zero, List.getElem_cons_succ, List.setIfInBounds_toArray, List.set_cons_zero, List.set_cons_succ]
  refine anyL_ready (rs := [1]) (by kernel_rfl) (by simp) ?_
  refine AllL.cons rfl (fun K hK => ?_) AllL.nil
  go_simp
  refine (unhide HT1).mono ?_
  rintro y v1 ⟨rfl, x1⟩
  have JV1 := hide ((unhide HJD).on x1)
  have HT2 := hide (GList_at g n L v1 (unhide JV1).s.m (unhide JV1).s.len2)
  refine unhide hK _ _ (fun _ => clsR_two (unhide JV1).k) ?_
  clear hK K HT1 x1
  refine anyL_take (i := 4) (v := ?vtl3) rfl (by kernel_rfl) (by kernel_rfl) (by kernel_rfl) (by kernel_rfl) (fun _ _ _ h => h) (Or.inl ⟨by rfl, ?htl3⟩) (clsR_two (unhide JV1).k) ?_
  case htl3 => (intro w hSw; (try dsimp only at hSw); go_simp) <;> with_reducible rfl
  simp only [Act.put, List.getElem_toArray, List.getElem_cons_zero, List.getElem_cons_succ, List.setIfInBounds_toArray, List.set_cons_zero, List.set_cons_succ]
  refine anyL_take (i := 5) (v := ?vtl4) rfl (by kernel_rfl) (by kernel_rfl) (by kernel_rfl) (by kernel_rfl) (fun _ _ _ h => h) (Or.inl ⟨by rfl, ?htl4⟩) (clsR_two (unhide JV1).k) ?_
  case htl4 => (intro w hSw; (try dsimp only at hSw); go_simp) <;> with_reducible rfl
  simp only [Act.put, List.getElem_toArray, List.getElem_cons_zero, List.getElem_cons_succ, List.setIfInBounds_toArray, List.set_cons_zero, List.set_cons_succ]
  refine anyL_take (i := 6) (v := ?vtl5) rfl (by kernel_rfl) (by kernel_rfl) (by kernel_rfl) (by kernel_rfl) (fun _ _ _ h => h) (Or.inl ⟨by rfl, ?htl5⟩) (clsR_two (unhide JV1).k) ?_
  case htl5 => (intro w hSw; (try dsimp only at hSw); go_simp) <;> with_reducible rfl
  simp only [Act.put, List.getElem_toArray, List.getElem_cons_zero, List.getElem_cons_succ, List.setIfInBounds_toArray, List.set_cons_zero, List.set_cons_succ]
  refine anyL_take (i := 8) (v := ?vtl6) rfl (by kernel_rfl) (by kernel_rfl) (by kernel_rfl) (by kernel_rfl) (fun _ _ _ h => h) (Or.inl ⟨by rfl, ?htl6⟩) (clsR_two (unhide JV1).k) ?_
  case htl6 => (intro w hSw; (try dsimp only at hSw); go_simp) <;> with_reducible rfl
  simp only [Act.put, List.getElem_toArray, List.getElem_cons_zero, List.getElem_cons_succ, List.setIfInBounds_toArray, List.set_cons_zero, List.set_cons_succ]
  refine anyL_take (i := 9) (v := ?vtl7) rfl (by kernel_rfl) (by kernel_rfl) (by kernel_rfl) (by kernel_rfl) (fun _ _ _ h => h) (Or.inl ⟨by rfl, ?htl7⟩) (clsR_two (unhide JV1).k) ?_
  case htl7 => (intro w hSw; (try dsimp only at hSw); go_simp) <;> with_reducible rfl
  simp only [Act.put, List.getElem_toArray, List.getElem_cons_zero, List.getElem_cons_succ, List.setIfInBounds_toArray, List.set_cons_zero, List.set_cons_succ]
  refine anyL_ready (rs := [7]) (by kernel_rfl) (by simp) ?_
  refine AllL.cons rfl (fun K hK => ?_) AllL.nil
  go_simp
  refine (unhide HT2).mono ?_
  rintro y v2 ⟨a5, c5, E, rfl, p5, s5, o5, x5⟩
  have e5 : D = E := ((unhide JV1).s.list p5 s5).symm
  subst e5
  have JV2 := hide ((unhide JV1).on x5)
  obtain ⟨_, _, e6, i6, _⟩ := own_isRl o5
  injection e6 with e61 e62 e63
  subst e61
  have HT3 := hide (RSameR_at a5 c5 a c D v2 i6 (unhide JV2).s.k (unhide JV2).s.len3)
  refine unhide hK _ _ (fun _ => clsR_two (unhide JV2).k) ?_
  clear hK K HT2 x5 p5 s5 o5 i6 e62 e63
  refine anyL_ready (rs := [10]) (by kernel_rfl) (by simp) ?_
  refine AllL.cons rfl (fun K hK => ?_) AllL.nil
  go_simp
  refine (unhide HT3).mono ?_
  rintro y v3 ⟨rfl, x6⟩
  have JV3 := hide ((unhide JV2).on x6)
  have HT4 := hide (GCov_at g n L v3 (unhide JV3).s.m (unhide JV3).s.len2)
  refine unhide hK _ _ (fun _ => clsR_two (unhide JV3).k) ?_
  clear hK K HT3 x6
  refine anyL_take (i := 11) (v := ?vtl8) rfl (by kernel_rfl) (by kernel_rfl) (by kernel_rfl) (by kernel_rfl) (fun _ _ _ h => h) (Or.inl ⟨by rfl, ?htl8⟩) (clsR_two (unhide JV3).k) ?_
  case htl8 => (intro w hSw; (try dsimp only at hSw); go_simp) <;> with_reducible rfl
  simp only [Act.put, List.getElem_toArray, List.getElem_cons_zero, List.getElem_cons_succ, List.setIfInBounds_toArray, List.set_cons_zero, List.set_cons_succ]
  refine anyL_take (i := 12) (v := ?vtl9) rfl (by kernel_rfl) (by kernel_rfl) (by kernel_rfl) (by kernel_rfl) (fun _ _ _ h => h) (Or.inl ⟨by rfl, ?htl9⟩) (clsR_two (unhide JV3).k) ?_
  case htl9 => (intro w hSw; (try dsimp only at hSw); go_simp) <;> with_reducible rfl
  simp only [Act.put, List.getElem_toArray, List.getElem_cons_zero, List.getElem_cons_succ, List.setIfInBounds_toArray, List.set_cons_zero, List.set_cons_succ]
  refine anyL_take (i := 13) (v := ?vtl10) rfl (by kernel_rfl) (by kernel_rfl) (by kernel_rfl) (by kernel_rfl) (fun _ _ _ h => h) (Or.inl ⟨by rfl, ?htl10⟩) (clsR_two (unhide JV3).k) ?_
  case htl10 => (intro w hSw; (try dsimp only at hSw); go_simp) <;> with_reducible rfl
  simp only [Act.put, List.getElem_toArray, List.getElem_cons_zero, List.getElem_cons_succ, List.setIfInBounds_toArray, List.set_cons_zero, List.set_cons_succ]
  refine anyL_take (i := 15) (v := ?vtl11) rfl (by kernel_rfl) (by kernel_rfl) (by kernel_rfl) (by kernel_rfl) (fun _ _ _ h => h) (Or.inl ⟨by rfl, ?htl11⟩) (clsR_two (unhide JV3).k) ?_
  case htl11 => (intro w hSw; (try dsimp only at hSw); go_simp) <;> with_reducible rfl
  simp only [Act.put, List.getElem_toArray, List.getElem_cons_zero, List.getElem_cons_succ, List.setIfInBounds_toArray, List.set_cons_zero, List.set_cons_succ]
  refine anyL_ready (rs := [14]) (by kernel_rfl) (by simp) ?_
  refine AllL.cons rfl (fun K hK => ?_) AllL.nil
  go_simp
  refine (unhide HT4).mono ?_
  rintro y v4 ⟨a7, c7, E7, rfl, p7, s7, o7, x7⟩
  have e7 : D = E7 := ((unhide JV3).s.list p7 s7).symm
  subst e7
  have JV4 := hide ((unhide JV3).on x7)
  have HO7 := hide o7
  have HT5 := hide (RCoverR_at n a c D v4 (unhide JV4).s.k (unhide JV4).s.len3)
  unfold rsV at HT5
  refine unhide hK _ _ (fun _ => clsR_two (unhide JV4).k) ?_
  clear hK K HT4 x7 p7 s7 o7
  refine anyL_ready (rs := [16]) (by kernel_rfl) (by simp) ?_
  refine AllL.cons rfl (fun K hK => ?_) AllL.nil
  go_simp
  refine (unhide HT5).mono ?_
  rintro y v5 ⟨a8, c8, rfl, o8, x8⟩
  have JV5 := hide ((unhide JV4).on x8)
  have HT6 := hide (RSameHits_at a7 c7 a8 c8 (covL D) v5 (own_isHs (rowD_below (unhide HO7) x8 (Nat.le_refl _))) (own_isHs o8) (unhide JV5).s.cov)
  refine unhide hK _ _ (fun _ => clsR_two (unhide JV5).k) ?_
  clear hK K HT5 HO7 x8 o8
  refine anyL_ready (rs := [17]) (by kernel_rfl) (by simp) ?_
  refine AllL.cons rfl (fun K hK => ?_) AllL.nil
  go_simp
  refine (unhide HT6).mono ?_
  rintro y v6 ⟨rfl, x9⟩
  have JV6 := hide ((unhide JV5).on x9)
  refine unhide hK _ _ (fun _ => clsR_two (unhide JV6).k) ?_
  clear hK K HT6 x9
  refine anyL_take (i := 18) (v := ?vtl12) rfl (by kernel_rfl) (by kernel_rfl) (by kernel_rfl) (by kernel_rfl) (fun _ _ _ h => h) (Or.inl ⟨by rfl, ?htl12⟩) (clsR_two (unhide JV6).k) ?_
  case htl12 => (intro w hSw; (try dsimp only at hSw); go_simp) <;> with_reducible rfl
  simp only [Act.put, List.getElem_toArray, List.getElem_cons_zero, List.getElem_cons_succ, List.setIfInBounds_toArray, List.set_cons_zero, List.set_cons_succ]
  refine anyL_take (i := 19) (v := ?vtl13) rfl (by kernel_rfl) (by kernel_rfl) (by kernel_rfl) (by kernel_rfl) (fun _ _ _ h => h) (Or.inl ⟨by rfl, ?htl13⟩) (clsR_two (unhide JV6).k) ?_
  case htl13 => (intro w hSw; (try dsimp only at hSw); go_simp) <;> with_reducible rfl
  simp only [Act.put, List.getElem_toArray, List.getElem_cons_zero, List.getElem_cons_succ, List.setIfInBounds_toArray, List.set_cons_zero, List.set_cons_succ]
  refine anyL_done (by kernel_rfl) ?_ _
  go_wp2_with fail
  refine bodyPost_ret (results_tmp rfl _ _ _) rfl ⟨rfl, (unhide JV6).b⟩
end Go.Proofs.Ytifpjdodignflaa
end

section
namespace Go.Proofs.Ytifpjdodignflaa
open Go.ChangeShapes Go.WideShapes Go.ChangeAt Go.RowKit
attribute [local go_sem] Oper.semAt_some

/-- an operation of a script: its kind, its range, its delta -/
structure Oc where
  k : Int
  x : Rg
  a : Option Addr
  c : Nat
  d : List Dop
def ocZ : Oc := ⟨0, rgZ, none, 0, []⟩
instance : Inhabited Oc := ⟨ocZ⟩
def ocL (q : Oc) : List Value := [.int .i64 q.k, .string q.x.n, .int .i64 q.x.lo, .int .i64 q.x.hi, .int .i64 q.x.st, .int .i64 q.x.en, .slice q.a q.d.length q.c]
structure OcI (W : World) (y : Oc) : Prop where
  o : IsO W y.a y.d
  z : y.d = [] ∨ ∃ q, y.a = some q
  l : y.d.length * 32 ≤ 140737488355328
  t : ∀ o ∈ y.d, TbD o ∧ o.t.length ≤ 140737488355328
/-- a list of operations that lies there -/
def IsOc (W : World) (a : Option Addr) (l : List Oc) : Prop := (∀ y ∈ l, OcI W y) ∧ (l = [] ∨ ∃ g off, a = some ⟨g, off, none⟩ ∧ g < W.heap.size ∧ ∀ k, k < l.length → ∀ j, j < 7 → W.cell? ⟨g, off + k * 7 + j, none⟩ = (ocL (l.getD k ocZ))[j]?)
theorem OcI.below {W W' : World} {y : Oc} (h : OcI W y) (hb : Below W.heap.size W W') : OcI W' y := ⟨h.o.below hb (Nat.le_refl _), h.z, h.l, h.t⟩
theorem IsOc.at {W : World} {a : Option Addr} {l : List Oc} (h : IsOc W a l) {k : Nat} (hk : k < l.length) {W' : World} (hb : Below W.heap.size W W') : OcI W' (l.getD k ocZ) ∧ ∃ g off, a = some ⟨g, off, none⟩ ∧ g < W.heap.size ∧ ∀ j, j < 7 → W'.cell? ⟨g, off + k * 7 + j, none⟩ = (ocL (l.getD k ocZ))[j]? := by
  have hm : l.getD k ocZ ∈ l := by rw [List.getD_eq_getElem?_getD, List.getElem?_eq_getElem hk]; exact List.getElem_mem hk
  refine ⟨(h.1 _ hm).below hb, ?_⟩
  rcases h.2 with h2 | ⟨g, off, e, hg, hc⟩
  · rw [h2] at hk; simp at hk
  · exact ⟨g, off, e, hg, fun j hj => (hb.cell (p := ⟨g, off + k * 7 + j, none⟩) hg).trans (hc k hk j hj)⟩
end Go.Proofs.Ytifpjdodignflaa
end

section
namespace Go.Proofs.Ytifpjdodignflaa
open Go.ChangeShapes Go.WideShapes Go.ChangeAt Go.RowKit
attribute [local go_sem] Oper.semAt_some

/-- the value of a step of a script -/
def ocA (kd : Int) (x : Rg) (ad : Option Addr) (dl cd : Nat) : Value := .agg #[.int .i64 kd, .string x.n, .int .i64 x.lo, .int .i64 x.hi, .int .i64 x.st, .int .i64 x.en, .slice ad dl cd]
/-- what play answers -/
def PlQ (X : World) (y : Ending) (X' : World) : Prop := ∃ (g' : Nat) (n' : Int) (L' : List Rg) (a' : Option Addr) (c' : Nat) (D' : List Rg), y = .returned (.tuple #[.pointer (some ⟨g', 0, none⟩), rsV n' a' D'.length c', .bool true]) ∧ StR X' g' n' L' a' D' ∧ Below X.heap.size X X'
structure PlJ (X wz : World) (B1 B2 B3 g : Nat) (n : Int) (L : List Rg) (a : Option Addr) (c : Nat) (D : List Rg) (kd : Int) (x : Rg) (ad : Option Addr) (cd : Nat) (d : List Dop) (u v : Value) : Prop where
  s : StR wz g n L a D
  k0 : Cls wz X.heap.size 30 #[.int .i64 n, .slice a D.length c]
  k1 : Cls wz B1 41 #[.int .i64 kd, .string x.n, .int .i64 x.lo, .int .i64 x.hi, .int .i64 x.st, .int .i64 x.en, .slice ad d.length cd]
  k2 : Cls wz B2 30 #[.int .i64 0, .slice none 0 0]
  k3 : Cls wz B3 30 #[u, v]
  b : Below X.heap.size X wz
  o : IsO wz ad d
  ne : X.heap.size < B1 ∧ B1 < B2 ∧ B2 < B3
theorem PlJ.on {X wz : World} {B1 B2 B3 g : Nat} {n : Int} {L : List Rg} {a : Option Addr} {c : Nat} {D : List Rg} {kd : Int} {x : Rg} {ad : Option Addr} {cd : Nat} {d : List Dop} {u v : Value} (h : PlJ X wz B1 B2 B3 g n L a c D kd x ad cd d u v) {wy : World} (hb : Below wz.heap.size wz wy) : PlJ X wy B1 B2 B3 g n L a c D kd x ad cd d u v :=
  ⟨h.s.below hb (Nat.le_refl _), h.k0.below hb h.k0.lt, h.k1.below hb h.k1.lt, h.k2.below hb h.k2.lt, h.k3.below hb h.k3.lt, h.b.trans (hb.mono h.b.size), h.o.below hb (Nat.le_refl _), h.ne⟩
theorem PlJ.cells {X wz : World} {B1 B2 B3 g : Nat} {n : Int} {L : List Rg} {a : Option Addr} {c : Nat} {D : List Rg} {kd : Int} {x : Rg} {ad : Option Addr} {cd : Nat} {d : List Dop} {u v : Value} (h : PlJ X wz B1 B2 B3 g n L a c D kd x ad cd d u v) : wz.cell? ⟨X.heap.size, 0, none⟩ = some (.int .i64 n) ∧ wz.cell? ⟨X.heap.size, 1, none⟩ = some (.slice a D.length c) ∧ wz.cell? ⟨B1, 0, none⟩ = some (.int .i64 kd) ∧ wz.cell? ⟨B1, 1, none⟩ = some (.string x.n) ∧ wz.cell? ⟨B1, 2, none⟩ = some (.int .i64 x.lo) ∧ wz.cell? ⟨B1, 3, none⟩ = some (.int .i64 x.hi) ∧ wz.cell? ⟨B1, 4, none⟩ = some (.int .i64 x.st) ∧ wz.cell? ⟨B1, 5, none⟩ = some (.int .i64 x.en) ∧ wz.cell? ⟨B1, 6, none⟩ = some (.slice ad d.length cd) :=
  ⟨(h.k0.cell 0).trans rfl, (h.k0.cell 1).trans rfl, (h.k1.cell 0).trans rfl, (h.k1.cell 1).trans rfl, (h.k1.cell 2).trans rfl, (h.k1.cell 3).trans rfl, (h.k1.cell 4).trans rfl, (h.k1.cell 5).trans rfl, (h.k1.cell 6).trans rfl⟩
theorem PlJ.next {X wz : World} {B1 B2 B3 g : Nat} {n : Int} {L : List Rg} {a : Option Addr} {c : Nat} {D : List Rg} {kd : Int} {x : Rg} {ad : Option Addr} {cd : Nat} {d : List Dop} {u v : Value} (h : PlJ X wz B1 B2 B3 g n L a c D kd x ad cd d u v) : wz.cell? ⟨B3, 0, none⟩ = some u ∧ wz.cell? ⟨B3, 1, none⟩ = some v ∧ wz.frozen? ⟨B3, 0, none⟩ = false ∧ wz.frozen? ⟨B3, 1, none⟩ = false := ⟨(h.k3.cell 0).trans rfl, (h.k3.cell 1).trans rfl, h.k3.frozen 0, h.k3.frozen 1⟩
theorem PlJ.res {X wz : World} {B1 B2 B3 g : Nat} {n : Int} {L : List Rg} {a : Option Addr} {c : Nat} {D : List Rg} {kd : Int} {x : Rg} {ad : Option Addr} {cd : Nat} {d : List Dop} {u v : Value} (h : PlJ X wz B1 B2 B3 g n L a c D kd x ad cd d u v) : wz.cell? ⟨B2, 0, none⟩ = some (.int .i64 0) ∧ wz.cell? ⟨B2, 1, none⟩ = some (.slice none 0 0) ∧ wz.frozen? ⟨B2, 0, none⟩ = false ∧ wz.frozen? ⟨B2, 1, none⟩ = false := ⟨(h.k2.cell 0).trans rfl, (h.k2.cell 1).trans rfl, h.k2.frozen 0, h.k2.frozen 1⟩
/-- a store into the block for what comes next -/
theorem PlJ.put3 {X wz : World} {B1 B2 B3 g : Nat} {n : Int} {L : List Rg} {a : Option Addr} {c : Nat} {D : List Rg} {kd : Int} {x : Rg} {ad : Option Addr} {cd : Nat} {d : List Dop} {u v : Value} (h : PlJ X wz B1 B2 B3 g n L a c D kd x ad cd d u v) (hO : IsO X ad d) (u' v' : Value) : PlJ X ((wz.setCell ⟨B3, 0, none⟩ u').setCell ⟨B3, 1, none⟩ v') B1 B2 B3 g n L a c D kd x ad cd d u' v' := by
  obtain ⟨n1, n2, n3⟩ := h.ne
  have hb := clsR_put2 h.k3 u' v' h.b (show X.heap.size ≤ B3 by omega)
  exact ⟨h.s.put2 h.k3 u' v', ClsR.apart2 h.k0 (by omega) u' v', ClsR.apart2 h.k1 (by omega) u' v', ClsR.apart2 h.k2 (by omega) u' v', hb.1, hb.2, hO.below hb.2 (Nat.le_refl _), h.ne⟩
/-- a store into the result's block -/
theorem PlJ.put2 {X wz : World} {B1 B2 B3 g : Nat} {n : Int} {L : List Rg} {a : Option Addr} {c : Nat} {D : List Rg} {kd : Int} {x : Rg} {ad : Option Addr} {cd : Nat} {d : List Dop} {u v : Value} (h : PlJ X wz B1 B2 B3 g n L a c D kd x ad cd d u v) (p q : Value) : (Cls ((wz.setCell ⟨B2, 0, none⟩ p).setCell ⟨B2, 1, none⟩ q) B2 30 #[p, q] ∧ Below X.heap.size X ((wz.setCell ⟨B2, 0, none⟩ p).setCell ⟨B2, 1, none⟩ q)) ∧ Cls ((wz.setCell ⟨B2, 0, none⟩ p).setCell ⟨B2, 1, none⟩ q) X.heap.size 30 #[.int .i64 n, .slice a D.length c] ∧ Cls ((wz.setCell ⟨B2, 0, none⟩ p).setCell ⟨B2, 1, none⟩ q) B3 30 #[u, v] ∧ StR ((wz.setCell ⟨B2, 0, none⟩ p).setCell ⟨B2, 1, none⟩ q) g n L a D := by
  obtain ⟨n1, n2, n3⟩ := h.ne
  exact ⟨clsR_put2 h.k2 p q h.b (show X.heap.size ≤ B2 by omega), ClsR.apart2 h.k0 (by omega) p q, ClsR.apart2 h.k3 (by omega) p q, h.s.put2 h.k2 p q⟩
theorem PlJ.start (X : World) (g : Nat) (n : Int) (L : List Rg) (a : Option Addr) (c : Nat) (D : List Rg) (kd : Int) (x : Rg) (ad : Option Addr) (cd : Nat) (d : List Dop) (h : StR X g n L a D) (ho : IsO X ad d) : PlJ X ((((X.alloc (.cells #[.int .i64 n, .slice a D.length c] 30)).alloc (.cells #[.int .i64 kd, .string x.n, .int .i64 x.lo, .int .i64 x.hi, .int .i64 x.st, .int .i64 x.en, .slice ad d.length cd] 41)).alloc (.cells #[.int .i64 0, .slice none 0 0] 30)).alloc (.cells #[.int .i64 0, .slice none 0 0] 30)) (X.heap.size + 1) (X.heap.size + 1 + 1) (X.heap.size + 1 + 1 + 1) g n L a c D kd x ad cd d (.int .i64 0) (.slice none 0 0) := by
  have b1 := (Below.refl X.heap.size X).alloc (Nat.le_refl _) (.cells #[.int .i64 n, .slice a D.length c] 30)
  have b2 := b1.alloc b1.size (.cells #[.int .i64 kd, .string x.n, .int .i64 x.lo, .int .i64 x.hi, .int .i64 x.st, .int .i64 x.en, .slice ad d.length cd] 41)
  have b3 := b2.alloc b2.size (.cells #[.int .i64 0, .slice none 0 0] 30)
  have b4 := b3.alloc b3.size (.cells #[.int .i64 0, .slice none 0 0] 30)
  have k4 := (((Cls.new X 30 #[.int .i64 n, .slice a D.length c]).alloc (.cells #[.int .i64 kd, .string x.n, .int .i64 x.lo, .int .i64 x.hi, .int .i64 x.st, .int .i64 x.en, .slice ad d.length cd] 41)).alloc (.cells #[.int .i64 0, .slice none 0 0] 30)).alloc (.cells #[.int .i64 0, .slice none 0 0] 30)
  have k5 := ((Cls.new (X.alloc (.cells #[.int .i64 n, .slice a D.length c] 30)) 41 #[.int .i64 kd, .string x.n, .int .i64 x.lo, .int .i64 x.hi, .int .i64 x.st, .int .i64 x.en, .slice ad d.length cd]).alloc (.cells #[.int .i64 0, .slice none 0 0] 30)).alloc (.cells #[.int .i64 0, .slice none 0 0] 30)
  have k7 := (Cls.new ((X.alloc (.cells #[.int .i64 n, .slice a D.length c] 30)).alloc (.cells #[.int .i64 kd, .string x.n, .int .i64 x.lo, .int .i64 x.hi, .int .i64 x.st, .int .i64 x.en, .slice ad d.length cd] 41)) 30 #[.int .i64 0, .slice none 0 0]).alloc (.cells #[.int .i64 0, .slice none 0 0] 30)
  have k11 := Cls.new (((X.alloc (.cells #[.int .i64 n, .slice a D.length c] 30)).alloc (.cells #[.int .i64 kd, .string x.n, .int .i64 x.lo, .int .i64 x.hi, .int .i64 x.st, .int .i64 x.en, .slice ad d.length cd] 41)).alloc (.cells #[.int .i64 0, .slice none 0 0] 30)) 30 #[.int .i64 0, .slice none 0 0]
  rw [World.size_alloc] at k5
  rw [World.size_alloc, World.size_alloc] at k7
  rw [World.size_alloc, World.size_alloc, World.size_alloc] at k11
  exact ⟨h.below b4 (Nat.le_refl _), k4, k5, k7, k11, b4, ho.below b4 (Nat.le_refl _), by omega⟩
end Go.Proofs.Ytifpjdodignflaa
end

section
namespace Go.Proofs.Ytifpjdodignflaa
open Go.ChangeShapes Go.WideShapes Go.ChangeAt Go.RowKit
attribute [local go_sem] Oper.semAt_some

set_option maxRecDepth 100000 in
set_option maxHeartbeats 8000000 in
theorem playSE_at (g : Nat) (n : Int) (L : List Rg) (a : Option Addr) (c : Nat) (D : List Rg) (x : Rg) (ad : Option Addr) (cd : Nat) (d : List Dop) (X : World) (h : StR X g n L a D) (ho : IsO X ad d) (hr : refG n L x ≠ 0) :
    Calls Try.prog 11 #[.pointer (some ⟨g, 0, none⟩), rsV n a D.length c, ocA 0 x ad d.length cd] X (PlQ X) := by
  have HP := hide (PlJ.start X g n L a c D 0 x ad cd d h ho)
  have HO := hide ho
  obtain ⟨xn, xl, xh, xs, xe⟩ := x
  unfold rsV ocA
  dsimp only at HP ⊢
  clear h ho
  obtain ⟨ER, HER⟩ : ∃ ER, Hid (ER = refG n L ⟨xn, xl, xh, xs, xe⟩) := ⟨_, hide rfl⟩
  have e3 : ¬ ER = 0 := by rw [unhide HER]; exact hr
  have e1 : (ER != 0) = true := by simpa using e3
  have e2 : (ER == 0) = false := by simpa using e3
  have HG0 := hide hr
  clear hr
  go_enter Try.func11, Try.ntmps11
  go_upto_region 5 with fail
  generalize (((X.alloc (.cells #[.int .i64 n, .slice a D.length c] 30)).alloc (.cells #[.int .i64 0, .string xn, .int .i64 xl, .int .i64 xh, .int .i64 xs, .int .i64 xe, .slice ad d.length cd] 41)).alloc (.cells #[.int .i64 0, .slice none 0 0] 30)).alloc (.cells #[.int .i64 0, .slice none 0 0] 30) = w0 at *
  generalize X.heap.size + 1 = B1 at *
  generalize B1 + 1 = B2 at *
  generalize B2 + 1 = B3 at *
  obtain ⟨c0, c1, a0, a1, a2, a3, a4, a5, a6⟩ := (unhide HP).cells
  dsimp only at a0 a1 a2 a3 a4 a5 a6
  have HC1 := hide (GSetE_at g n L ⟨xn, xl, xh, xs, xe⟩ w0 (unhide HP).s.m (unhide HG0))
  rw [← unhide HER] at HC1
  unfold rgV at HC1
  dsimp only at HC1
  go_wp2_with fail
  refine (unhide HC1).mono ?_
  rintro y w1 ⟨rfl, x1⟩
  dsimp only
  have HP1 := hide ((unhide HP).on x1)
  clear HC1 HP x1 c0 c1 a0 a1 a2 a3 a4 a5 a6
  obtain ⟨c0, c1, a0, a1, a2, a3, a4, a5, a6⟩ := (unhide HP1).cells
  dsimp only at a0 a1 a2 a3 a4 a5 a6
  obtain ⟨y0, y1, f0, f1⟩ := (unhide HP1).next
  have HC2 := hide (RSetR_all n a c D ⟨xn, xl, xh, xs, xe⟩ w1 (unhide HP1).s.k (unhide HP1).s.len3 ((unhide HP1).s.r.u))
  rw [refG_perm (unhide HP1).s.r, ← unhide HER] at HC2
  unfold rsV rgV at HC2
  dsimp only at HC2
  go_wp2_with fail
  refine (unhide HC2).mono ?_
  rintro y w2 h2
  rcases h2 with ⟨_, rfl, x2⟩ | ⟨h0, _⟩
  rotate_left
  · exact absurd h0 e3
  dsimp only
  have HP2 := hide ((unhide HP1).on x2)
  clear HC2 HP1 x2 c0 c1 a0 a1 a2 a3 a4 a5 a6 y0 y1 f0 f1
  obtain ⟨c0, c1, a0, a1, a2, a3, a4, a5, a6⟩ := (unhide HP2).cells
  dsimp only at a0 a1 a2 a3 a4 a5 a6
  obtain ⟨y0, y1, f0, f1⟩ := (unhide HP2).next
  have HP := hide ((unhide HP2).put3 (unhide HO) (.int .i64 n) (.slice a D.length c))
  obtain ⟨j0, j1, _, _⟩ := (unhide HP).next
  clear HP2
  go_upto_region 24 with fail
  clear j0 j1 y0 y1 f0 f1 c0 c1 a0 a1 a2 a3 a4 a5 a6
  generalize (w2.setCell ⟨B3, 0, none⟩ (.int .i64 n)).setCell ⟨B3, 1, none⟩ (.slice a D.length c) = wz at *
  have HPD := hide ((unhide HP).on (Below.refl wz.heap.size wz).drew)
  have HT := hide (tells_at g n L a c D wz.drew (unhide HPD).s)
  unfold rsV at HT
  clear HP
  refine regionL (S := fun z => z.cell? ⟨X.heap.size, 0, none⟩ = some (.int .i64 n) ∧ z.cell? ⟨X.heap.size, 1, none⟩ = some (.slice a D.length c)) (fun _ => false) (by kernel_rfl) ?_
  generalize wz.drew = zz at *
  refine anyL_take (i := 0) (v := ?ven014) rfl (by kernel_rfl) (by kernel_rfl) (by kernel_rfl) (by kernel_rfl) (fun _ _ _ h => h) (Or.inl ⟨by rfl, ?hen014⟩) (clsR_two (unhide HPD).k0) ?_
  case hen014 => (intro w hSw; (try dsimp only at hSw); go_simp) <;> with_reducible rfl
  simp only [Act.put, List.getElem_toArray, List.getElem_cons_zero, List.setIfInBounds_toArray, List.set_cons_zero, List.set_cons_succ]
  refine anyL_take (i := 1) (v := ?ven015) rfl (by kernel_rfl) (by kernel_rfl) (by kernel_rfl) (by kernel_rfl) (fun _ _ _ h => h) (Or.inl ⟨by rfl, ?hen015⟩) (clsR_two (unhide HPD).k0) ?_
  case hen015 => (intro w hSw; (try dsimp only at hSw); go_simp) <;> with_reducible rfl
  simp only [Act.put, List.getElem_toArray, List.getElem_cons_zero, List.getElem_cons_succ, List.setIfInBounds_toArray, List.set_cons_zero, List.set_cons_succ]
  refine anyL_take (i := 2) (v := ?ven016) rfl (by kernel_rfl) (by kernel_rfl) (by kernel_rfl) (by kernel_rfl) (fun _ _ _ h => h) (Or.inl ⟨by rfl, ?hen016⟩) (clsR_two (unhide HPD).k0) ?_
  case hen016 => (intro w hSw; (try dsimp only at hSw); go_simp) <;> with_reducible rfl
  simp only [Act.put, List.getElem_toArray, List.getElem_cons_zero, List.getElem_cons_succ, List.setIfInBounds_toArray, List.set_cons_zero, List.set_cons_succ]
  refine anyL_take (i := 3) (v := ?ven017) rfl (by kernel_rfl) (by kernel_rfl) (by kernel_rfl) (by kernel_rfl) (fun _ _ _ h => h) (Or.inl ⟨by rfl, ?hen017⟩) (clsR_two (unhide HPD).k0) ?_
  case hen017 => (intro w hSw; (try dsimp only at hSw); go_simp) <;> with_reducible rfl
  simp only [Act.put, List.getElem_toArray, List.getElem_cons_zero, List.getElem_cons_succ, List.setIfInBounds_toArray, List.set_cons_zero, List.set_cons_succ]
  refine anyL_take (i := 4) (v := ?ven018) rfl (by kernel_rfl) (by kernel_rfl) (by kernel_rfl) (by kernel_rfl) (fun _ _ _ h => h) (Or.inl ⟨by rfl, ?hen018⟩) (clsR_two (unhide HPD).k0) ?_
  case hen018 => (intro w hSw; (try dsimp only at hSw); go_simp) <;> with_reducible rfl
  simp only [Act.put, List.getElem_toArray, List.getElem_cons_zero, List.getElem_cons_succ, List.setIfInBounds_toArray, List.set_cons_zero, List.set_cons_succ]
  refine anyL_take (i := 5) (v := ?ven019) rfl (by kernel_rfl) (by kernel_rfl) (by kernel_rfl) (by kernel_rfl) (fun _ _ _ h => h) (Or.inl ⟨by rfl, ?hen019⟩) (clsR_two (unhide HPD).k0) ?_
  case hen019 => (intro w hSw; (try dsimp only at hSw); go_simp) <;> with_reducible rfl
  simp only [Act.put, List.getElem_toArray, List.getElem_cons_zero, List.getElem_cons_succ, List.setIfInBounds_toArray, List.set_cons_zero, List.set_cons_succ]
  refine anyL_take (i := 6) (v := ?ven020) rfl (by kernel_rfl) (by kernel_rfl) (by kernel_rfl) (by kernel_rfl) (fun _ _ _ h => h) (Or.inl ⟨by rfl, ?hen020⟩) (clsR_two (unhide HPD).k0) ?_
  case hen020 => (intro w hSw; (try dsimp only at hSw); go_simp) <;> with_reducible rfl
  simp only [Act.put, List.getElem_toArray, List.getElem_cons_zero, List.getElem_cons_succ, List.setIfInBounds_toArray, List.set_cons_zero, List.set_cons_succ]
  refine anyL_ready (rs := [7]) (by kernel_rfl) (by simp) ?_
  refine AllL.cons rfl (fun K hK => ?_) AllL.nil
  go_simp
  refine (unhide HT).mono ?_
  rintro y v1 ⟨rfl, x1⟩
  have HP1 := hide ((unhide HPD).on x1)
  refine unhide hK _ _ (fun _ => clsR_two (unhide HP1).k0) ?_
  clear hK K HT x1 HPD
  refine anyL_take (i := 8) (v := ?ven021) rfl (by kernel_rfl) (by kernel_rfl) (by kernel_rfl) (by kernel_rfl) (fun _ _ _ h => h) (Or.inl ⟨by rfl, ?hen021⟩) (clsR_two (unhide HP1).k0) ?_
  case hen021 => (intro w hSw; (try dsimp only at hSw); go_simp) <;> with_reducible rfl
  simp only [Act.put, List.getElem_toArray, List.getElem_cons_zero, List.getElem_cons_succ, List.setIfInBounds_toArray, List.set_cons_zero, List.set_cons_succ]
  refine anyL_take (i := 9) (v := ?ven022) rfl (by kernel_rfl) (by kernel_rfl) (by kernel_rfl) (by kernel_rfl) (fun _ _ _ h => h) (Or.inl ⟨by rfl, ?hen022⟩) (clsR_two (unhide HP1).k0) ?_
  case hen022 => (intro w hSw; (try dsimp only at hSw); go_simp) <;> with_reducible rfl
  simp only [Act.put, List.getElem_toArray, List.getElem_cons_zero, List.getElem_cons_succ, List.setIfInBounds_toArray, List.set_cons_zero, List.set_cons_succ]
  refine anyL_ready (rs := [10]) (by kernel_rfl) (by simp) ?_
  refine AllL.cons rfl (fun K hK => ?_) AllL.nil
  have q2 := (unhide HP1).put2 (.int .i64 n) (.slice a D.length c)
  obtain ⟨y0, y1, f0, f1⟩ := (unhide HP1).res
  obtain ⟨r0, r1⟩ := clsR_two q2.1.1
  have HB9 := hide q2.1.2
  have HS9 := hide q2.2.2.2
  have HSy := hide (clsR_two q2.2.1)
  clear q2
  go_simp
  refine unhide hK _ _ (fun _ => unhide HSy) ?_
  clear hK K y0 y1 f0 f1
  refine anyL_take (i := 11) (v := ?ven023) rfl (by kernel_rfl) (by kernel_rfl) (by kernel_rfl) (by kernel_rfl) (fun _ _ _ h => h) (Or.inl ⟨by rfl, ?hen023⟩) (unhide HSy) ?_
  case hen023 => (intro w hSw; (try dsimp only at hSw); go_simp) <;> with_reducible rfl
  simp only [Act.put, List.getElem_toArray, List.getElem_cons_zero, List.getElem_cons_succ, List.setIfInBounds_toArray, List.set_cons_zero, List.set_cons_succ]
  refine anyL_done (by kernel_rfl) ?_ _
  go_wp2_with fail
  refine bodyPost_ret (v := .tuple #[.pointer (some ⟨g, 0, none⟩), .agg #[.int .i64 n, .slice a D.length c], .bool true]) (by simp [results, Try.results11, go_sem, r0, r1]) rfl ?_
  exact ⟨g, n, L, a, c, D, rfl, unhide HS9, unhide HB9⟩
set_option maxRecDepth 100000 in
set_option maxHeartbeats 8000000 in
theorem playSO_at (g : Nat) (n : Int) (L : List Rg) (a : Option Addr) (c : Nat) (D : List Rg) (x : Rg) (ad : Option Addr) (cd : Nat) (d : List Dop) (X : World) (h : StR X g n L a D) (ho : IsO X ad d) (hr : refG n L x = 0) :
    Calls Try.prog 11 #[.pointer (some ⟨g, 0, none⟩), rsV n a D.length c, ocA 0 x ad d.length cd] X (PlQ X) := by
  have HP := hide (PlJ.start X g n L a c D 0 x ad cd d h ho)
  have HO := hide ho
  obtain ⟨xn, xl, xh, xs, xe⟩ := x
  unfold rsV ocA
  dsimp only at HP ⊢
  clear h ho
  have HG0 := hide hr
  clear hr
  go_enter Try.func11, Try.ntmps11
  go_upto_region 5 with fail
  generalize (((X.alloc (.cells #[.int .i64 n, .slice a D.length c] 30)).alloc (.cells #[.int .i64 0, .string xn, .int .i64 xl, .int .i64 xh, .int .i64 xs, .int .i64 xe, .slice ad d.length cd] 41)).alloc (.cells #[.int .i64 0, .slice none 0 0] 30)).alloc (.cells #[.int .i64 0, .slice none 0 0] 30) = w0 at *
  generalize X.heap.size + 1 = B1 at *
  generalize B1 + 1 = B2 at *
  generalize B2 + 1 = B3 at *
  obtain ⟨c0, c1, a0, a1, a2, a3, a4, a5, a6⟩ := (unhide HP).cells
  dsimp only at a0 a1 a2 a3 a4 a5 a6
  have HC1 := hide (GSet_at g n L ⟨xn, xl, xh, xs, xe⟩ w0 (unhide HP).s.m (unhide HG0))
  unfold rgV at HC1
  dsimp only at HC1
  go_wp2_with fail
  refine (unhide HC1).mono ?_
  rintro y w1 ⟨g', rfl, m1, x1⟩
  dsimp only
  have HP1 := hide ((unhide HP).on x1)
  have HM1 := hide m1
  clear HC1 HP x1 m1 c0 c1 a0 a1 a2 a3 a4 a5 a6
  obtain ⟨c0, c1, a0, a1, a2, a3, a4, a5, a6⟩ := (unhide HP1).cells
  dsimp only at a0 a1 a2 a3 a4 a5 a6
  obtain ⟨y0, y1, f0, f1⟩ := (unhide HP1).next
  have HC2 := hide (RSetR_all n a c D ⟨xn, xl, xh, xs, xe⟩ w1 (unhide HP1).s.k (unhide HP1).s.len3 ((unhide HP1).s.r.u))
  rw [refG_perm (unhide HP1).s.r, unhide HG0] at HC2
  unfold rsV rgV at HC2
  dsimp only at HC2
  go_wp2_with fail
  refine (unhide HC2).mono ?_
  rintro y w2 h2
  rcases h2 with ⟨h0, _⟩ | ⟨_, v2, rfl, o2, x2⟩
  · exact absurd rfl h0
  dsimp only
  obtain ⟨av, cv, hvv, _⟩ := rowD_form o2
  subst hvv
  have hrel := (unhide HP1).s.put_l (unhide HG0)
  have hHN : StR w2 g' n (putG ⟨xn, xl, xh, xs, xe⟩ L) av (insG ⟨xn, xl, xh, xs, xe⟩ (delG xn D)) := by
    obtain ⟨_, _, e9, i9, _⟩ := own_isRl o2
    injection e9 with e91 e92 e93
    subst e91
    exact ⟨(unhide HM1).below x2 (Nat.le_refl _), i9, hrel.1, hrel.2.1, hrel.2.2, (unhide HP1).s.q, ownR_typ o2⟩
  have HP2 := hide ((unhide HP1).on x2)
  have HN2 := hide hHN
  clear HC2 HP1 x2 o2 hHN hrel HM1 c0 c1 a0 a1 a2 a3 a4 a5 a6 y0 y1 f0 f1
  generalize (insG ⟨xn, xl, xh, xs, xe⟩ (delG xn D)) = D2 at *
  generalize (putG ⟨xn, xl, xh, xs, xe⟩ L) = L2 at *
  have HN := hide ((unhide HN2).put2 (unhide HP2).k3 (.int .i64 n) (.slice av D2.length cv))
  have HP := hide ((unhide HP2).put3 (unhide HO) (.int .i64 n) (.slice av D2.length cv))
  obtain ⟨c0, c1, a0, a1, a2, a3, a4, a5, a6⟩ := (unhide HP2).cells
  dsimp only at a0 a1 a2 a3 a4 a5 a6
  obtain ⟨y0, y1, f0, f1⟩ := (unhide HP2).next
  obtain ⟨j0, j1, _, _⟩ := (unhide HP).next
  clear HP2 HN2
  go_upto_region 25 with fail
  clear j0 j1 y0 y1 f0 f1 c0 c1 a0 a1 a2 a3 a4 a5 a6
  generalize (w2.setCell ⟨B3, 0, none⟩ (.int .i64 n)).setCell ⟨B3, 1, none⟩ (.slice av D2.length cv) = wz at *
  have HPD := hide ((unhide HP).on (Below.refl wz.heap.size wz).drew)
  have HND := hide ((unhide HN).below (Below.refl wz.heap.size wz).drew (Nat.le_refl _))
  have HT := hide (tells_at g' n L2 av cv D2 wz.drew (unhide HND))
  unfold rsV at HT
  clear HP HN
  refine regionL (S := fun z => z.cell? ⟨B3, 0, none⟩ = some (.int .i64 n) ∧ z.cell? ⟨B3, 1, none⟩ = some (.slice av D2.length cv)) (fun _ => false) (by kernel_rfl) ?_
  generalize wz.drew = zz at *
  refine anyL_take (i := 0) (v := ?ven124) rfl (by kernel_rfl) (by kernel_rfl) (by kernel_rfl) (by kernel_rfl) (fun _ _ _ h => h) (Or.inl ⟨by rfl, ?hen124⟩) (clsR_two (unhide HPD).k3) ?_
  case hen124 => (intro w hSw; (try dsimp only at hSw); go_simp) <;> with_reducible rfl
  simp only [Act.put, List.getElem_toArray, List.getElem_cons_zero, List.setIfInBounds_toArray, List.set_cons_zero, List.set_cons_succ]
  refine anyL_take (i := 1) (v := ?ven125) rfl (by kernel_rfl) (by kernel_rfl) (by kernel_rfl) (by kernel_rfl) (fun _ _ _ h => h) (Or.inl ⟨by rfl, ?hen125⟩) (clsR_two (unhide HPD).k3) ?_
  case hen125 => (intro w hSw; (try dsimp only at hSw); go_simp) <;> with_reducible rfl
  simp only [Act.put, List.getElem_toArray, List.getElem_cons_zero, List.getElem_cons_succ, List.setIfInBounds_toArray, List.set_cons_zero, List.set_cons_succ]
  refine anyL_take (i := 2) (v := ?ven126) rfl (by kernel_rfl) (by kernel_rfl) (by kernel_rfl) (by kernel_rfl) (fun _ _ _ h => h) (Or.inl ⟨by rfl, ?hen126⟩) (clsR_two (unhide HPD).k3) ?_
  case hen126 => (intro w hSw; (try dsimp only at hSw); go_simp) <;> with_reducible rfl
  simp only [Act.put, List.getElem_toArray, List.getElem_cons_zero, List.getElem_cons_succ, List.setIfInBounds_toArray, List.set_cons_zero, List.set_cons_succ]
  refine anyL_take (i := 3) (v := ?ven127) rfl (by kernel_rfl) (by kernel_rfl) (by kernel_rfl) (by kernel_rfl) (fun _ _ _ h => h) (Or.inl ⟨by rfl, ?hen127⟩) (clsR_two (unhide HPD).k3) ?_
  case hen127 => (intro w hSw; (try dsimp only at hSw); go_simp) <;> with_reducible rfl
  simp only [Act.put, List.getElem_toArray, List.getElem_cons_zero, List.getElem_cons_succ, List.setIfInBounds_toArray, List.set_cons_zero, List.set_cons_succ]
  refine anyL_take (i := 4) (v := ?ven128) rfl (by kernel_rfl) (by kernel_rfl) (by kernel_rfl) (by kernel_rfl) (fun _ _ _ h => h) (Or.inl ⟨by rfl, ?hen128⟩) (clsR_two (unhide HPD).k3) ?_
  case hen128 => (intro w hSw; (try dsimp only at hSw); go_simp) <;> with_reducible rfl
  simp only [Act.put, List.getElem_toArray, List.getElem_cons_zero, List.getElem_cons_succ, List.setIfInBounds_toArray, List.set_cons_zero, List.set_cons_succ]
  refine anyL_take (i := 5) (v := ?ven129) rfl (by kernel_rfl) (by kernel_rfl) (by kernel_rfl) (by kernel_rfl) (fun _ _ _ h => h) (Or.inl ⟨by rfl, ?hen129⟩) (clsR_two (unhide HPD).k3) ?_
  case hen129 => (intro w hSw; (try dsimp only at hSw); go_simp) <;> with_reducible rfl
  simp only [Act.put, List.getElem_toArray, List.getElem_cons_zero, List.getElem_cons_succ, List.setIfInBounds_toArray, List.set_cons_zero, List.set_cons_succ]
  refine anyL_take (i := 6) (v := ?ven130) rfl (by kernel_rfl) (by kernel_rfl) (by kernel_rfl) (by kernel_rfl) (fun _ _ _ h => h) (Or.inl ⟨by rfl, ?hen130⟩) (clsR_two (unhide HPD).k3) ?_
  case hen130 => (intro w hSw; (try dsimp only at hSw); go_simp) <;> with_reducible rfl
  simp only [Act.put, List.getElem_toArray, List.getElem_cons_zero, List.getElem_cons_succ, List.setIfInBounds_toArray, List.set_cons_zero, List.set_cons_succ]
  refine anyL_ready (rs := [7]) (by kernel_rfl) (by simp) ?_
  refine AllL.cons rfl (fun K hK => ?_) AllL.nil
  go_simp
  refine (unhide HT).mono ?_
  rintro y v1 ⟨rfl, x1⟩
  have HP1 := hide ((unhide HPD).on x1)
  have HN1 := hide ((unhide HND).below x1 (Nat.le_refl _))
  refine unhide hK _ _ (fun _ => clsR_two (unhide HP1).k3) ?_
  clear hK K HT x1 HPD HND
  refine anyL_take (i := 8) (v := ?ven131) rfl (by kernel_rfl) (by kernel_rfl) (by kernel_rfl) (by kernel_rfl) (fun _ _ _ h => h) (Or.inl ⟨by rfl, ?hen131⟩) (clsR_two (unhide HP1).k3) ?_
  case hen131 => (intro w hSw; (try dsimp only at hSw); go_simp) <;> with_reducible rfl
  simp only [Act.put, List.getElem_toArray, List.getElem_cons_zero, List.getElem_cons_succ, List.setIfInBounds_toArray, List.set_cons_zero, List.set_cons_succ]
  refine anyL_take (i := 9) (v := ?ven132) rfl (by kernel_rfl) (by kernel_rfl) (by kernel_rfl) (by kernel_rfl) (fun _ _ _ h => h) (Or.inl ⟨by rfl, ?hen132⟩) (clsR_two (unhide HP1).k3) ?_
  case hen132 => (intro w hSw; (try dsimp only at hSw); go_simp) <;> with_reducible rfl
  simp only [Act.put, List.getElem_toArray, List.getElem_cons_zero, List.getElem_cons_succ, List.setIfInBounds_toArray, List.set_cons_zero, List.set_cons_succ]
  refine anyL_ready (rs := [10]) (by kernel_rfl) (by simp) ?_
  refine AllL.cons rfl (fun K hK => ?_) AllL.nil
  have q2 := (unhide HP1).put2 (.int .i64 n) (.slice av D2.length cv)
  obtain ⟨y0, y1, f0, f1⟩ := (unhide HP1).res
  obtain ⟨r0, r1⟩ := clsR_two q2.1.1
  have HB9 := hide q2.1.2
  have HS9 := hide ((unhide HN1).put2 (unhide HP1).k2 (.int .i64 n) (.slice av D2.length cv))
  have HSy := hide (clsR_two q2.2.2.1)
  clear q2
  go_simp
  refine unhide hK _ _ (fun _ => unhide HSy) ?_
  clear hK K y0 y1 f0 f1
  refine anyL_take (i := 11) (v := ?ven133) rfl (by kernel_rfl) (by kernel_rfl) (by kernel_rfl) (by kernel_rfl) (fun _ _ _ h => h) (Or.inl ⟨by rfl, ?hen133⟩) (unhide HSy) ?_
  case hen133 => (intro w hSw; (try dsimp only at hSw); go_simp) <;> with_reducible rfl
  simp only [Act.put, List.getElem_toArray, List.getElem_cons_zero, List.getElem_cons_succ, List.setIfInBounds_toArray, List.set_cons_zero, List.set_cons_succ]
  refine anyL_done (by kernel_rfl) ?_ _
  go_wp2_with fail
  refine bodyPost_ret (v := .tuple #[.pointer (some ⟨g', 0, none⟩), .agg #[.int .i64 n, .slice av D2.length cv], .bool true]) (by simp [results, Try.results11, go_sem, r0, r1]) rfl ?_
  exact ⟨g', n, L2, av, cv, D2, rfl, unhide HS9, unhide HB9⟩
end Go.Proofs.Ytifpjdodignflaa
end
