/- Layer 9: trees of leaves in memory; measure, height, size, Len, Weld, Depth. · Layer 9: both, newFork (written by wip/tools/rp2.py). · Layer 9, plain: trees that are put together: what balanced and linked make, and their heights. · Layer 9: treeOfLeaves (written by wip/tools/rp3.py). · Layer 9: treeOf, New. · Layer 9: lastLeaf, firstLeaf. · Layer 9: withLast (written by wip/tools/rp6.py). · Layer 9: before (written by wip/tools/rp8.py). · Layer 9: halves of a fork (written by wip/tools/rp9.py). · Layer 9: the height of a node through its interface, whatever it is; balanced. · Layer 9: linked (written by wip/tools/rpd.py). · Layer 9: Depth. -/
import Derived.Test.YteamaneompijkaaGreatDoorSa32
import Derived.Handy
namespace Go.Proofs.YteamaneompijkaaGreatDoor
open Go.ChangeShapes Go.WideShapes Go.ChangeAt Go.RowKit
set_option maxRecDepth 100000
set_option maxHeartbeats 8000000
section
attribute [local go_sem] Oper.semAt_some
inductive Nd where
  | tip (l : List Int) : Nd
  | fork (a b : Nd) : Nd
def Nd.txt : Nd → List Int
  | .tip l => l
  | .fork a b => a.txt ++ b.txt
def Nd.high : Nd → Nat
  | .tip _ => 1
  | .fork a b => max a.high b.high + 1
def tipV (g : Nat) : Value := .iface 179 (.agg #[.pointer (some ⟨g, 0, none⟩)])
def forkV (g : Nat) : Value := .iface 175 (.pointer (some ⟨g, 0, none⟩))
def forkC (va vb : Value) (l : List Int) (n : Nat) : Array Value := #[va, vb, .int .i64 (szL l).b, .int .i64 (szL l).r, .int .i64 (szL l).u, .int .i64 (szL l).e, .string (strOfNums (l.take 3)), .string (strOfNums (tail3 l)), .int .i64 (n : Int)]
def IsNd (W : World) : Value → Nd → Prop
  | v, .tip l => ∃ g, v = tipV g ∧ IsLf W g l ∧ 0 < l.length ∧ l.length ≤ 4096 ∧ ∀ x ∈ l, 0 ≤ x ∧ x ≤ 255
  | v, .fork a b => ∃ g va vb, v = forkV g ∧ W.heap[g]? = some (.cells (forkC va vb (a.txt ++ b.txt) (Nd.fork a b).high) 177 (0, 0)) ∧ IsNd W va a ∧ IsNd W vb b
theorem IsNd.on {W W' : World} (hb : Below W.heap.size W W') : ∀ {t : Nd} {v : Value}, IsNd W v t → IsNd W' v t
  | .tip _, _, ⟨g, e, h, r⟩ => ⟨g, e, h.on hb, r⟩
  | .fork _ _, _, ⟨g, va, vb, e, h, h1, h2⟩ => ⟨g, va, vb, e, (hb.block g (Array.getElem?_eq_some_iff.1 h).1).trans h, IsNd.on hb h1, IsNd.on hb h2⟩
theorem IsNd.pos {W : World} : ∀ {t : Nd} {v : Value}, IsNd W v t → 0 < t.txt.length
  | .tip _, _, ⟨_, _, _, h, _⟩ => h
  | .fork _ _, _, ⟨_, _, _, _, _, h1, _⟩ => by have := h1.pos; simp [Nd.txt]; omega
theorem IsNd.bytes {W : World} : ∀ {t : Nd} {v : Value}, IsNd W v t → ∀ x ∈ t.txt, 0 ≤ x ∧ x ≤ 255
  | .tip _, _, ⟨_, _, _, _, _, h⟩ => h
  | .fork _ _, _, ⟨_, _, _, _, _, h1, h2⟩ => fun x hx => by
    rcases List.mem_append.1 hx with h | h
    · exact h1.bytes x h
    · exact h2.bytes x h
theorem high_txt {W : World} : ∀ {t : Nd} {v : Value}, IsNd W v t → t.high ≤ t.txt.length
  | .tip _, _, ⟨_, _, _, h, _⟩ => h
  | .fork _ _, _, ⟨_, _, _, _, _, h1, h2⟩ => by
    have a1 := high_txt h1
    have a2 := high_txt h2
    have a3 := h1.pos
    have a4 := h2.pos
    simp [Nd.high, Nd.txt]
    omega
theorem weq9 (q : List Int) : weV (ofL q) = .agg #[.int .i64 (szL q).b, .int .i64 (szL q).r, .int .i64 (szL q).u, .int .i64 (szL q).e, .string (strOfNums (List.take 3 q)), .string (strOfNums (tail3 q))] := rfl
theorem bk9_on {X Y : World} {g : Nat} {o : Obj} (h : X.heap[g]? = some o) (hb : Below X.heap.size X Y) : Y.heap[g]? = some o := (hb.block g (Array.getElem?_eq_some_iff.1 h).1).trans h
theorem cells9 {W : World} {g : Nat} {x0 x1 x2 x3 x4 x5 x6 x7 x8 : Value} {t : TypeId} (h : W.heap[g]? = some (.cells #[x0, x1, x2, x3, x4, x5, x6, x7, x8] t (0, 0))) : W.cell? ⟨g, 0, none⟩ = some x0 ∧ W.cell? ⟨g, 1, none⟩ = some x1 ∧ W.cell? ⟨g, 2, none⟩ = some x2 ∧ W.cell? ⟨g, 3, none⟩ = some x3 ∧ W.cell? ⟨g, 4, none⟩ = some x4 ∧ W.cell? ⟨g, 5, none⟩ = some x5 ∧ W.cell? ⟨g, 6, none⟩ = some x6 ∧ W.cell? ⟨g, 7, none⟩ = some x7 ∧ W.cell? ⟨g, 8, none⟩ = some x8 := by
  refine ⟨by simp only [World.cell?, h]; rfl, by simp only [World.cell?, h]; rfl, by simp only [World.cell?, h]; rfl, by simp only [World.cell?, h]; rfl, by simp only [World.cell?, h]; rfl, by simp only [World.cell?, h]; rfl, by simp only [World.cell?, h]; rfl, by simp only [World.cell?, h]; rfl, by simp only [World.cell?, h]; rfl⟩
theorem two9 (w : World) (o1 o2 : Obj) : ((w.alloc o1).alloc o2).heap[w.heap.size]? = some o1 ∧ ((w.alloc o1).alloc o2).heap[w.heap.size + 1]? = some o2 ∧ Below w.heap.size w ((w.alloc o1).alloc o2) ∧ Below (w.alloc o1).heap.size (w.alloc o1) ((w.alloc o1).alloc o2) := by
  have b1 := (Below.refl w.heap.size w).alloc (Nat.le_refl _) o1
  have b2 := (Below.refl (w.alloc o1).heap.size (w.alloc o1)).alloc (Nat.le_refl _) o2
  have z : (w.alloc o1).heap.size = w.heap.size + 1 := World.size_alloc ..
  refine ⟨(b2.block w.heap.size (by omega)).trans (World.alloc_heap_new w o1), ?_, b1.trans (b2.mono b1.size), b2⟩
  rw [← z]
  exact World.alloc_heap_new _ o2
theorem forkH_at (g : Nat) (va vb : Value) (l : List Int) (n : Nat) (w : World) (h : w.heap[g]? = some (.cells (forkC va vb l n) 177 (0, 0))) :
    Calls Tryz.prog 186 #[.pointer (some ⟨g, 0, none⟩)] w fun y w' => y = .returned (.int .i64 (n : Int)) ∧ w' = w := by
  unfold forkC at h
  obtain ⟨_, _, _, _, _, _, _, _, c8⟩ := cells9 h
  clear h
  go_enter Tryz.func186, Tryz.ntmps186
  go_wp2_with fail
  go_ret
  exact ⟨rfl, rfl⟩
theorem tipH_at (v : Value) (g : Nat) (w : World) (hv : v = .agg #[.pointer (some ⟨g, 0, none⟩)]) :
    Calls Tryz.prog 188 #[v] w fun y w' => y = .returned (.int .i64 1) ∧ Below w.heap.size w w' := by
  subst hv
  have b0 := (Below.refl w.heap.size w).alloc (Nat.le_refl _) (.cells #[.pointer (some ⟨g, 0, none⟩)] 179)
  go_enter Tryz.func188, Tryz.ntmps188
  go_wp2_with fail
  go_ret
  exact ⟨rfl, b0⟩
theorem forkM_at (g : Nat) (va vb : Value) (l : List Int) (n : Nat) (w : World) (h : w.heap[g]? = some (.cells (forkC va vb l n) 177 (0, 0))) :
    Calls Tryz.prog 187 #[.pointer (some ⟨g, 0, none⟩)] w fun y w' => y = .returned (weV (ofL l)) ∧ Below w.heap.size w w' := by
  have b0 := (Below.refl w.heap.size w).alloc (Nat.le_refl _) (.cells #[.int .i64 0, .int .i64 0, .int .i64 0, .int .i64 0, .string ⟨#[]⟩, .string ⟨#[]⟩] 47)
  have g0 := push_get w (.cells #[.int .i64 0, .int .i64 0, .int .i64 0, .int .i64 0, .string ⟨#[]⟩, .string ⟨#[]⟩] 47)
  have HV := hide (weq9 l)
  have k0 := bk9_on h b0
  unfold forkC at k0
  clear h
  go_enter Tryz.func187, Tryz.ntmps187
  go_upto_region 1 with fail
  generalize w.alloc (.cells #[.int .i64 0, .int .i64 0, .int .i64 0, .int .i64 0, .string ⟨#[]⟩, .string ⟨#[]⟩] 47) = w0 at *
  generalize (szL l).b = xb at *
  generalize (szL l).r = xr at *
  generalize (szL l).u = xu at *
  generalize (szL l).e = xe at *
  generalize strOfNums (List.take 3 l) = xh at *
  generalize strOfNums (tail3 l) = xt at *
  obtain ⟨_, _, c2, c3, c4, c5, c6, c7, _⟩ := cells9 k0
  obtain ⟨p0, p1, p2, p3, p4, p5, pf⟩ := cells6 g0
  have f0 := pf 0
  have f1 := pf 1
  have f2 := pf 2
  have f3 := pf 3
  have f4 := pf 4
  have f5 := pf 5
  clear pf
  have HX := hide (box6_all g0 (.int .i64 xb) (.int .i64 xr) (.int .i64 xu) (.int .i64 xe) (.string xh) (.string xt))
  have HB := hide (below6 b0 (Nat.le_refl _) (.int .i64 xb) (.int .i64 xr) (.int .i64 xu) (.int .i64 xe) (.string xh) (.string xt))
  clear g0 b0 k0
  go_wp2_with fail
  generalize ((((((w0.setCell ⟨w.heap.size, 0, none⟩ (.int .i64 xb)).setCell ⟨w.heap.size, 1, none⟩ (.int .i64 xr)).setCell ⟨w.heap.size, 2, none⟩ (.int .i64 xu)).setCell ⟨w.heap.size, 3, none⟩ (.int .i64 xe)).setCell ⟨w.heap.size, 4, none⟩ (.string xh)).setCell ⟨w.heap.size, 5, none⟩ (.string xt)) = wf at *
  obtain ⟨r0, r1, r2, r3, r4, r5, _⟩ := cells6 (unhide HX)
  refine bodyPost_ret (v := .agg #[.int .i64 xb, .int .i64 xr, .int .i64 xu, .int .i64 xe, .string xh, .string xt]) (by simp [results, Tryz.results187, go_sem, r0, r1, r2, r3, r4, r5]) rfl ⟨by rw [unhide HV], unhide HB⟩
theorem tipM_at (v : Value) (g : Nat) (l : List Int) (w : World) (hv : v = .agg #[.pointer (some ⟨g, 0, none⟩)]) (h : IsLf w g l) :
    Calls Tryz.prog 189 #[v] w fun y w' => y = .returned (weV (ofL l)) ∧ Below w.heap.size w w' := by
  subst hv
  have b0 := (Below.refl w.heap.size w).alloc (Nat.le_refl _) (.cells #[.pointer (some ⟨g, 0, none⟩)] 179)
  have g0 := push_get w (.cells #[.pointer (some ⟨g, 0, none⟩)] 179)
  have k0 := h.on b0
  clear h
  have HV := hide (weq9 l)
  go_enter Tryz.func189, Tryz.ntmps189
  obtain ⟨q1, q2, q3, q4⟩ := two9 w (.cells #[.pointer (some ⟨g, 0, none⟩)] 179) (.cells #[.int .i64 0, .int .i64 0, .int .i64 0, .int .i64 0, .string ⟨#[]⟩, .string ⟨#[]⟩] 47)
  have k1 := k0.on q4
  clear b0 g0 k0 q4
  go_upto_region 1 with fail
  generalize (w.alloc (.cells #[.pointer (some ⟨g, 0, none⟩)] 179)).alloc (.cells #[.int .i64 0, .int .i64 0, .int .i64 0, .int .i64 0, .string ⟨#[]⟩, .string ⟨#[]⟩] 47) = w1 at *
  have ct : w1.cell? ⟨w.heap.size, 0, none⟩ = some (.pointer (some ⟨g, 0, none⟩)) := by simp only [World.cell?, q1]; rfl
  have hW := WeldL_at g l w1 k1
  rw [weq9] at hW
  generalize (szL l).b = xb at *
  generalize (szL l).r = xr at *
  generalize (szL l).u = xu at *
  generalize (szL l).e = xe at *
  generalize strOfNums (List.take 3 l) = xh at *
  generalize strOfNums (tail3 l) = xt at *
  go_wp2_with fail
  refine hW.mono ?_
  rintro y w2 ⟨rfl, x2⟩
  have g2 := bk9_on q2 x2
  have d2 := q3.trans (x2.mono q3.size)
  have HGE : w.heap.size ≤ w.heap.size + 1 := Nat.le_succ _
  generalize hgW : w.heap.size + 1 = gW at *
  obtain ⟨p0, p1, p2, p3, p4, p5, pf⟩ := cells6 g2
  have f0 := pf 0
  have f1 := pf 1
  have f2 := pf 2
  have f3 := pf 3
  have f4 := pf 4
  have f5 := pf 5
  clear pf
  have HX := hide (box6_all g2 (.int .i64 xb) (.int .i64 xr) (.int .i64 xu) (.int .i64 xe) (.string xh) (.string xt))
  have HB := hide (below6 d2 HGE (.int .i64 xb) (.int .i64 xr) (.int .i64 xu) (.int .i64 xe) (.string xh) (.string xt))
  clear hW ct q1 q2 q3 k1 x2 g2 d2 HGE hgW
  go_wp2_with fail
  generalize ((((((w2.setCell ⟨gW, 0, none⟩ (.int .i64 xb)).setCell ⟨gW, 1, none⟩ (.int .i64 xr)).setCell ⟨gW, 2, none⟩ (.int .i64 xu)).setCell ⟨gW, 3, none⟩ (.int .i64 xe)).setCell ⟨gW, 4, none⟩ (.string xh)).setCell ⟨gW, 5, none⟩ (.string xt)) = wf at *
  obtain ⟨r0, r1, r2, r3, r4, r5, _⟩ := cells6 (unhide HX)
  refine bodyPost_ret (v := .agg #[.int .i64 xb, .int .i64 xr, .int .i64 xu, .int .i64 xe, .string xh, .string xt]) (by simp [results, Tryz.results189, go_sem, r0, r1, r2, r3, r4, r5]) rfl ⟨by rw [unhide HV], unhide HB⟩
theorem fld9W (a b c d e f : Value) (w : World) : (Instr.field 47 (.agg #[a, b, c, d, e, f]) 0).run Tryz.prog w = .ok (.agg #[a, b, c, d]) w := by kernel_rfl
theorem fld9B (a b c d : Value) (w : World) : (Instr.field 45 (.agg #[a, b, c, d]) 0).run Tryz.prog w = .ok a w := by kernel_rfl
attribute [local go_sem] fld9W fld9B
theorem nil9 (w : World) : (binOp .eql 95 .nilIface .nilIface).run Tryz.prog w = .ok (.bool true) w := by kernel_rfl
theorem ifn9 (T : TypeId) (v : Value) (w : World) : (binOp .eql 95 (.iface T v) .nilIface).run Tryz.prog w = .ok (.bool false) w := by kernel_rfl
theorem ifn9' (T : TypeId) (v : Value) (w : World) : (binOp .neq 95 (.iface T v) .nilIface).run Tryz.prog w = .ok (.bool true) w := by kernel_rfl
theorem size9_at (v : Value) (t : Nd) (w : World) (h : IsNd w v t) :
    Calls Tryz.prog 47 #[v] w fun y w' => y = .returned (.int .i64 (t.txt.length : Int)) ∧ Below w.heap.size w w' := by
  have hn := ifn9
  cases t with
  | tip l =>
    obtain ⟨g, rfl, hf, _⟩ := h
    have hM := tipM_at _ g l w rfl hf
    rw [weq9] at hM
    unfold tipV
    have hb : (szL l).b = (l.length : Int) := rfl
    rw [hb] at hM
    clear hb
    go_enter Tryz.func47, Tryz.ntmps47
    go_wp2_with fail
    refine hM.mono ?_
    rintro y w1 ⟨rfl, x1⟩
    clear hM
    go_wp2_with fail
    go_ret
    exact ⟨rfl, x1⟩
  | fork a b =>
    obtain ⟨g, va, vb, rfl, hc, _⟩ := h
    have hM := forkM_at g va vb _ _ w hc
    rw [weq9] at hM
    unfold forkV
    have hb : (szL (a.txt ++ b.txt)).b = (((a.txt ++ b.txt).length : Nat) : Int) := rfl
    rw [hb] at hM
    clear hb
    show Calls _ _ _ _ fun y w' => y = .returned (.int .i64 ((a.txt ++ b.txt).length : Int)) ∧ Below w.heap.size w w'
    generalize a.txt ++ b.txt = L at *
    go_enter Tryz.func47, Tryz.ntmps47
    go_wp2_with fail
    refine hM.mono ?_
    rintro y w1 ⟨rfl, x1⟩
    clear hM
    go_wp2_with fail
    go_ret
    exact ⟨rfl, x1⟩
def txtO : Option Nd → List Int
  | none => []
  | some t => t.txt
def NdV (W : World) (v : Value) : Option Nd → Prop
  | none => v = .nilIface
  | some t => IsNd W v t
theorem NdV.on {W W' : World} (hb : Below W.heap.size W W') {o : Option Nd} {v : Value} (h : NdV W v o) : NdV W' v o := by
  cases o with
  | none => exact h
  | some t => exact IsNd.on hb h
def IsRo (W : World) (g : Nat) (o : Option Nd) : Prop := ∃ v, W.heap[g]? = some (.cells #[v] 121 (0, 0)) ∧ NdV W v o
theorem IsRo.on {W W' : World} {g : Nat} {o : Option Nd} (h : IsRo W g o) (hb : Below W.heap.size W W') : IsRo W' g o := by
  obtain ⟨v, h1, h2⟩ := h
  exact ⟨v, bk9_on h1 hb, h2.on hb⟩
theorem top9_at (g : Nat) (v : Value) (w : World) (h : w.heap[g]? = some (.cells #[v] 121 (0, 0))) :
    Calls Tryz.prog 40 #[.pointer (some ⟨g, 0, none⟩)] w fun y w' => y = .returned v ∧ w' = w := by
  have c : w.cell? ⟨g, 0, none⟩ = some v := by simp only [World.cell?, h]; rfl
  clear h
  go_enter Tryz.func40, Tryz.ntmps40
  go_wp2_with fail
  go_ret
  exact ⟨rfl, rfl⟩
theorem topN9_at (w : World) : Calls Tryz.prog 40 #[.pointer none] w fun y w' => y = .returned .nilIface ∧ w' = w := by
  go_enter Tryz.func40, Tryz.ntmps40
  go_wp2_with fail
  go_ret
  exact ⟨rfl, rfl⟩
theorem sizeN9_at (w : World) : Calls Tryz.prog 47 #[.nilIface] w fun y w' => y = .returned (.int .i64 0) ∧ w' = w := by
  have hn := nil9
  go_enter Tryz.func47, Tryz.ntmps47
  go_wp2_with fail
  go_ret
  exact ⟨rfl, rfl⟩
theorem Len9_at (g : Nat) (o : Option Nd) (w : World) (h : IsRo w g o) :
    Calls Tryz.prog 18 #[.pointer (some ⟨g, 0, none⟩)] w fun y w' => y = .returned (.int .i64 ((txtO o).length : Int)) ∧ Below w.heap.size w w' := by
  obtain ⟨v, h1, h2⟩ := h
  go_enter Tryz.func18, Tryz.ntmps18
  go_wp2_with fail
  refine (top9_at g v w h1).mono ?_
  rintro y w1 ⟨rfl, hw1⟩
  rw [hw1]
  clear hw1 w1 h1
  cases o with
  | none =>
    obtain rfl : v = .nilIface := h2
    go_wp2_with fail
    refine (sizeN9_at w).mono ?_
    rintro y w1 ⟨rfl, hw1⟩
    rw [hw1]
    go_wp2_with fail
    go_ret
    exact ⟨rfl, Below.refl _ _⟩
  | some t =>
    have hs := size9_at v t w h2
    go_wp2_with fail
    refine hs.mono ?_
    rintro y w1 ⟨rfl, x1⟩
    clear hs
    go_wp2_with fail
    go_ret
    exact ⟨rfl, x1⟩
end
section
attribute [local go_sem] Oper.semAt_some
theorem three9 (w : World) (o1 o2 o3 : Obj) : (((w.alloc o1).alloc o2).alloc o3).heap[w.heap.size]? = some o1 ∧ (((w.alloc o1).alloc o2).alloc o3).heap[w.heap.size + 1]? = some o2 ∧ (((w.alloc o1).alloc o2).alloc o3).heap[w.heap.size + 1 + 1]? = some o3 ∧ Below w.heap.size w (((w.alloc o1).alloc o2).alloc o3) := by
  obtain ⟨q1, q2, q3, q4⟩ := two9 w o1 o2
  have z : ((w.alloc o1).alloc o2).heap.size = w.heap.size + 1 + 1 := by rw [World.size_alloc, World.size_alloc]
  have b3 := (Below.refl ((w.alloc o1).alloc o2).heap.size ((w.alloc o1).alloc o2)).alloc (Nat.le_refl _) o3
  refine ⟨bk9_on q1 b3, bk9_on q2 b3, ?_, q3.trans (b3.mono q3.size)⟩
  rw [← z]
  exact World.alloc_heap_new _ o3
theorem both9_at (a b : List Int) (w : World) (ha : ∀ x ∈ a, 0 ≤ x ∧ x ≤ 255) (hb : ∀ x ∈ b, 0 ≤ x ∧ x ≤ 255) (hn : a.length + b.length ≤ 268435456) (hW : Wt w) :
    Calls Tryz.prog 114 #[weV (ofL a), weV (ofL b)] w fun y w' => y = .returned (weV (ofL (a ++ b))) ∧ Below w.heap.size w w' := by
  have hJ := fun (X : World) (h : Below w.heap.size w X) => Join_at (ofL a) (ofL b) X (hW.below h) (byw_of ha) (byw_of hb)
  rw [join_of ha hb hn] at hJ
  dsimp only at hJ
  simp only [weq9] at hJ ⊢
  clear ha hb hn hW
  generalize a ++ b = c at *
  generalize (szL a).b = xb at *
  generalize (szL a).r = xr at *
  generalize (szL a).u = xu at *
  generalize (szL a).e = xe at *
  generalize strOfNums (List.take 3 a) = xh at *
  generalize strOfNums (tail3 a) = xt at *
  generalize (szL b).b = yb at *
  generalize (szL b).r = yr at *
  generalize (szL b).u = yu at *
  generalize (szL b).e = ye at *
  generalize strOfNums (List.take 3 b) = yh at *
  generalize strOfNums (tail3 b) = yt at *
  generalize (szL c).b = zb at *
  generalize (szL c).r = zr at *
  generalize (szL c).u = zu at *
  generalize (szL c).e = ze at *
  generalize strOfNums (List.take 3 c) = zh at *
  generalize strOfNums (tail3 c) = zt at *
  have HJ := hide hJ
  clear hJ
  obtain ⟨q1, q2, q3, d0⟩ := three9 w (.cells #[.int .i64 xb, .int .i64 xr, .int .i64 xu, .int .i64 xe, .string xh, .string xt] 47) (.cells #[.int .i64 yb, .int .i64 yr, .int .i64 yu, .int .i64 ye, .string yh, .string yt] 47) (.cells #[.int .i64 0, .int .i64 0, .int .i64 0, .int .i64 0, .string ⟨#[]⟩, .string ⟨#[]⟩] 47)
  go_enter Tryz.func114, Tryz.ntmps114
  go_upto_region 1 with fail
  generalize ((w.alloc (.cells #[.int .i64 xb, .int .i64 xr, .int .i64 xu, .int .i64 xe, .string xh, .string xt] 47)).alloc (.cells #[.int .i64 yb, .int .i64 yr, .int .i64 yu, .int .i64 ye, .string yh, .string yt] 47)).alloc (.cells #[.int .i64 0, .int .i64 0, .int .i64 0, .int .i64 0, .string ⟨#[]⟩, .string ⟨#[]⟩] 47) = w0 at *
  have HGE : w.heap.size ≤ w.heap.size + 1 + 1 := by omega
  generalize hg2 : w.heap.size + 1 + 1 = gW at *
  clear hg2
  generalize hg1 : w.heap.size + 1 = gB at *
  clear hg1
  obtain ⟨p0, p1, p2, p3, p4, p5, _⟩ := cells6 q1
  obtain ⟨s0, s1, s2, s3, s4, s5, _⟩ := cells6 q2
  go_wp2_with fail
  refine (unhide HJ w0 d0).mono ?_
  rintro y w1 ⟨rfl, x1⟩
  have x2 := (Below.refl w1.heap.size w1).alloc (Nat.le_refl _) (.cells #[.int .i64 zb, .int .i64 zr, .int .i64 zu, .int .i64 ze, .string zh, .string zt] 47)
  have g2 := push_get w1 (.cells #[.int .i64 zb, .int .i64 zr, .int .i64 zu, .int .i64 ze, .string zh, .string zt] 47)
  have x12 := x1.trans (x2.mono x1.size)
  have k2 := bk9_on q3 x12
  have d2 := d0.trans (x12.mono d0.size)
  clear p0 p1 p2 p3 p4 p5 s0 s1 s2 s3 s4 s5 q1 q2 q3 d0 x1 x2 x12 HJ
  go_upto_region 2 with fail
  generalize hgc : w1.heap.size = gc at *
  clear hgc
  generalize w1.alloc (.cells #[.int .i64 zb, .int .i64 zr, .int .i64 zu, .int .i64 ze, .string zh, .string zt] 47) = w2 at *
  obtain ⟨s0, s1, s2, s3, s4, s5, _⟩ := cells6 g2
  obtain ⟨p0, p1, p2, p3, p4, p5, pf⟩ := cells6 k2
  have f0 := pf 0
  have f1 := pf 1
  have f2 := pf 2
  have f3 := pf 3
  have f4 := pf 4
  have f5 := pf 5
  clear pf
  have HX := hide (box6_all k2 (.int .i64 zb) (.int .i64 zr) (.int .i64 zu) (.int .i64 ze) (.string zh) (.string zt))
  have HB := hide (below6 d2 HGE (.int .i64 zb) (.int .i64 zr) (.int .i64 zu) (.int .i64 ze) (.string zh) (.string zt))
  clear g2 k2 d2 HGE
  go_wp2_with fail
  generalize ((((((w2.setCell ⟨gW, 0, none⟩ (.int .i64 zb)).setCell ⟨gW, 1, none⟩ (.int .i64 zr)).setCell ⟨gW, 2, none⟩ (.int .i64 zu)).setCell ⟨gW, 3, none⟩ (.int .i64 ze)).setCell ⟨gW, 4, none⟩ (.string zh)).setCell ⟨gW, 5, none⟩ (.string zt)) = wf at *
  obtain ⟨r0, r1, r2, r3, r4, r5, _⟩ := cells6 (unhide HX)
  refine bodyPost_ret (v := .agg #[.int .i64 zb, .int .i64 zr, .int .i64 zu, .int .i64 ze, .string zh, .string zt]) (by simp [results, Tryz.results114, go_sem, r0, r1, r2, r3, r4, r5]) rfl ⟨rfl, unhide HB⟩
theorem bk9_b {X Y : World} {g : Nat} {o : Obj} (h : X.heap[g]? = some o) (hb : Below X.heap.size X Y) : Y.heap[g]? = some o := bk9_on h hb
theorem newFork9_at (va vb : Value) (a b : Nd) (w : World) (ha : IsNd w va a) (hb : IsNd w vb b) (hn : a.txt.length + b.txt.length ≤ 268435456) (hW : Wt w) :
    Calls Tryz.prog 118 #[va, vb] w fun y w' => ∃ g, y = .returned (.pointer (some ⟨g, 0, none⟩)) ∧ w'.heap[g]? = some (.cells (forkC va vb (a.txt ++ b.txt) (Nd.fork a b).high) 177 (0, 0)) ∧ w.heap.size ≤ g ∧ Below w.heap.size w w' := by
  have hBo := fun (X : World) (h : Below w.heap.size w X) => both9_at a.txt b.txt X ha.bytes hb.bytes hn (hW.below h)
  have hh1 : a.high ≤ 268435456 := by have := high_txt ha; omega
  have hh2 : b.high ≤ 268435456 := by have := high_txt hb; omega
  have hmx : max (a.high : Int) (b.high : Int) = ((max a.high b.high : Nat) : Int) := by omega
  have hw1 : wrap64 (max (a.high : Int) (b.high : Int) + 1) = (((Nd.fork a b).high : Nat) : Int) := by show _ = ((max a.high b.high + 1 : Nat) : Int); unfold wrap64; omega
  have HM := hide (And.intro hmx hw1)
  clear hn hW hmx hw1 hh1 hh2
  generalize hhf : (Nd.fork a b).high = hf at *
  clear hhf
  cases a with
  | tip ta =>
    cases b with
    | tip tb =>
      obtain ⟨ga, rfl, fa, _⟩ := ha
      have hMa := fun (X : World) (h : Below w.heap.size w X) => tipM_at _ ga _ X rfl (fa.below h fa.lt)
      have hHa := fun (X : World) => tipH_at _ ga X rfl
      obtain ⟨gb, rfl, fb, _⟩ := hb
      have hMb := fun (X : World) (h : Below w.heap.size w X) => tipM_at _ gb _ X rfl (fb.below h fb.lt)
      have hHb := fun (X : World) => tipH_at _ gb X rfl
      simp only [Nd.txt] at hBo ⊢
      have e1 := weq9 ta
      have e2 := weq9 tb
      have e3 := weq9 (ta ++ tb)
      rw [e1] at hMa hBo
      rw [e2] at hMb hBo
      rw [e3] at hBo
      clear e1 e2 e3
      have HMa := hide hMa
      have HMb := hide hMb
      have HHa := hide hHa
      have HHb := hide hHb
      have HBo := hide hBo
      clear hMa hMb hHa hHb hBo
      unfold forkC
      generalize hC : ta ++ tb = C at *
      clear hC
      unfold tipV
      generalize (szL ta).b = xb at *
      generalize (szL ta).r = xr at *
      generalize (szL ta).u = xu at *
      generalize (szL ta).e = xe at *
      generalize strOfNums (List.take 3 ta) = xh at *
      generalize strOfNums (tail3 ta) = xt at *
      generalize (szL tb).b = yb at *
      generalize (szL tb).r = yr at *
      generalize (szL tb).u = yu at *
      generalize (szL tb).e = ye at *
      generalize strOfNums (List.take 3 tb) = yh at *
      generalize strOfNums (tail3 tb) = yt at *
      generalize (szL C).b = zb at *
      generalize (szL C).r = zr at *
      generalize (szL C).u = zu at *
      generalize (szL C).e = ze at *
      generalize strOfNums (List.take 3 C) = zh at *
      generalize strOfNums (tail3 C) = zt at *
      go_enter Tryz.func118, Tryz.ntmps118
      go_wp2_with fail
      refine (unhide HMa w (Below.refl _ _)).mono ?_
      rintro y w1 ⟨rfl, d1⟩
      go_wp2_with fail
      refine (unhide HMb w1 d1).mono ?_
      rintro y w2 ⟨rfl, x2⟩
      have d2 := d1.trans (x2.mono d1.size)
      clear x2 d1
      go_wp2_with fail
      refine (unhide HBo w2 d2).mono ?_
      rintro y w3 ⟨rfl, x3⟩
      have d3 := d2.trans (x3.mono d2.size)
      clear x3 d2
      go_wp2_with fail
      refine (unhide HHa w3).mono ?_
      rintro y w4 ⟨rfl, x4⟩
      have d4 := d3.trans (x4.mono d3.size)
      clear x4 d3
      go_wp2_with fail
      refine (unhide HHb w4).mono ?_
      rintro y w5 ⟨rfl, x5⟩
      have d5 := d4.trans (x5.mono d4.size)
      clear x5 d4
      have x6 := (Below.refl w5.heap.size w5).alloc (Nat.le_refl _) (.cells #[.iface 179 (.agg #[.pointer (some ⟨ga, 0, none⟩)]), .iface 179 (.agg #[.pointer (some ⟨gb, 0, none⟩)]), .int .i64 zb, .int .i64 zr, .int .i64 zu, .int .i64 ze, .string zh, .string zt, .int .i64 (hf : Int)] 177)
      have HG := hide (push_get w5 (.cells #[.iface 179 (.agg #[.pointer (some ⟨ga, 0, none⟩)]), .iface 179 (.agg #[.pointer (some ⟨gb, 0, none⟩)]), .int .i64 zb, .int .i64 zr, .int .i64 zu, .int .i64 ze, .string zh, .string zt, .int .i64 (hf : Int)] 177))
      have HD := hide (d5.trans (x6.mono d5.size))
      have HS := hide d5.size
      clear x6 d5 HMa HMb HBo HHa HHb
      have h12 : wrap64 (max (1 : Int) 1 + 1) = (hf : Int) := (unhide HM).2
      have h13 : wrap64 (max (1 : Int) 1 + 1) = 2 := by unfold wrap64; omega
      obtain rfl : hf = 2 := by rw [h13] at h12; omega
      clear h12 h13
      clear HM
      go_wp2_with fail
      go_ret
      exact ⟨_, rfl, unhide HG, unhide HS, unhide HD⟩
    | fork b1 b2 =>
      obtain ⟨ga, rfl, fa, _⟩ := ha
      have hMa := fun (X : World) (h : Below w.heap.size w X) => tipM_at _ ga _ X rfl (fa.below h fa.lt)
      have hHa := fun (X : World) => tipH_at _ ga X rfl
      obtain ⟨gb, lb, rb, rfl, fb, _⟩ := hb
      have hMb := fun (X : World) (h : Below w.heap.size w X) => forkM_at gb lb rb _ _ X (bk9_b fb h)
      have hHb := fun (X : World) (h : Below w.heap.size w X) => forkH_at gb lb rb _ _ X (bk9_b fb h)
      simp only [Nd.txt] at hBo ⊢
      have e1 := weq9 ta
      have e2 := weq9 (b1.txt ++ b2.txt)
      have e3 := weq9 (ta ++ (b1.txt ++ b2.txt))
      rw [e1] at hMa hBo
      rw [e2] at hMb hBo
      rw [e3] at hBo
      clear e1 e2 e3
      have HMa := hide hMa
      have HMb := hide hMb
      have HHa := hide hHa
      have HHb := hide hHb
      have HBo := hide hBo
      clear hMa hMb hHa hHb hBo
      unfold forkC
      generalize hC : ta ++ (b1.txt ++ b2.txt) = C at *
      clear hC
      generalize hB' : b1.txt ++ b2.txt = LB at *
      clear hB'
      unfold tipV
      unfold forkV
      generalize (szL ta).b = xb at *
      generalize (szL ta).r = xr at *
      generalize (szL ta).u = xu at *
      generalize (szL ta).e = xe at *
      generalize strOfNums (List.take 3 ta) = xh at *
      generalize strOfNums (tail3 ta) = xt at *
      generalize (szL LB).b = yb at *
      generalize (szL LB).r = yr at *
      generalize (szL LB).u = yu at *
      generalize (szL LB).e = ye at *
      generalize strOfNums (List.take 3 LB) = yh at *
      generalize strOfNums (tail3 LB) = yt at *
      generalize (szL C).b = zb at *
      generalize (szL C).r = zr at *
      generalize (szL C).u = zu at *
      generalize (szL C).e = ze at *
      generalize strOfNums (List.take 3 C) = zh at *
      generalize strOfNums (tail3 C) = zt at *
      generalize (Nd.fork b1 b2).high = nb at *
      go_enter Tryz.func118, Tryz.ntmps118
      go_wp2_with fail
      refine (unhide HMa w (Below.refl _ _)).mono ?_
      rintro y w1 ⟨rfl, d1⟩
      go_wp2_with fail
      refine (unhide HMb w1 d1).mono ?_
      rintro y w2 ⟨rfl, x2⟩
      have d2 := d1.trans (x2.mono d1.size)
      clear x2 d1
      go_wp2_with fail
      refine (unhide HBo w2 d2).mono ?_
      rintro y w3 ⟨rfl, x3⟩
      have d3 := d2.trans (x3.mono d2.size)
      clear x3 d2
      go_wp2_with fail
      refine (unhide HHa w3).mono ?_
      rintro y w4 ⟨rfl, x4⟩
      have d4 := d3.trans (x4.mono d3.size)
      clear x4 d3
      go_wp2_with fail
      refine (unhide HHb w4 d4).mono ?_
      rintro y w5 ⟨rfl, hw5⟩
      have d5 : Below w.heap.size w w5 := by rw [hw5]; exact d4
      clear hw5 d4
      have x6 := (Below.refl w5.heap.size w5).alloc (Nat.le_refl _) (.cells #[.iface 179 (.agg #[.pointer (some ⟨ga, 0, none⟩)]), .iface 175 (.pointer (some ⟨gb, 0, none⟩)), .int .i64 zb, .int .i64 zr, .int .i64 zu, .int .i64 ze, .string zh, .string zt, .int .i64 (hf : Int)] 177)
      have HG := hide (push_get w5 (.cells #[.iface 179 (.agg #[.pointer (some ⟨ga, 0, none⟩)]), .iface 175 (.pointer (some ⟨gb, 0, none⟩)), .int .i64 zb, .int .i64 zr, .int .i64 zu, .int .i64 ze, .string zh, .string zt, .int .i64 (hf : Int)] 177))
      have HD := hide (d5.trans (x6.mono d5.size))
      have HS := hide d5.size
      clear x6 d5 HMa HMb HBo HHa HHb
      have hnum : wrap64 (max 1 (nb : Int) + 1) = (hf : Int) := (unhide HM).2
      clear HM
      go_wp2_with fail
      go_ret
      exact ⟨_, rfl, unhide HG, unhide HS, unhide HD⟩
  | fork a1 a2 =>
    cases b with
    | tip tb =>
      obtain ⟨ga, la, ra, rfl, fa, _⟩ := ha
      have hMa := fun (X : World) (h : Below w.heap.size w X) => forkM_at ga la ra _ _ X (bk9_b fa h)
      have hHa := fun (X : World) (h : Below w.heap.size w X) => forkH_at ga la ra _ _ X (bk9_b fa h)
      obtain ⟨gb, rfl, fb, _⟩ := hb
      have hMb := fun (X : World) (h : Below w.heap.size w X) => tipM_at _ gb _ X rfl (fb.below h fb.lt)
      have hHb := fun (X : World) => tipH_at _ gb X rfl
      simp only [Nd.txt] at hBo ⊢
      have e1 := weq9 (a1.txt ++ a2.txt)
      have e2 := weq9 tb
      have e3 := weq9 ((a1.txt ++ a2.txt) ++ tb)
      rw [e1] at hMa hBo
      rw [e2] at hMb hBo
      rw [e3] at hBo
      clear e1 e2 e3
      have HMa := hide hMa
      have HMb := hide hMb
      have HHa := hide hHa
      have HHb := hide hHb
      have HBo := hide hBo
      clear hMa hMb hHa hHb hBo
      unfold forkC
      generalize hC : (a1.txt ++ a2.txt) ++ tb = C at *
      clear hC
      generalize hA : a1.txt ++ a2.txt = LA at *
      clear hA
      unfold tipV
      unfold forkV
      generalize (szL LA).b = xb at *
      generalize (szL LA).r = xr at *
      generalize (szL LA).u = xu at *
      generalize (szL LA).e = xe at *
      generalize strOfNums (List.take 3 LA) = xh at *
      generalize strOfNums (tail3 LA) = xt at *
      generalize (szL tb).b = yb at *
      generalize (szL tb).r = yr at *
      generalize (szL tb).u = yu at *
      generalize (szL tb).e = ye at *
      generalize strOfNums (List.take 3 tb) = yh at *
      generalize strOfNums (tail3 tb) = yt at *
      generalize (szL C).b = zb at *
      generalize (szL C).r = zr at *
      generalize (szL C).u = zu at *
      generalize (szL C).e = ze at *
      generalize strOfNums (List.take 3 C) = zh at *
      generalize strOfNums (tail3 C) = zt at *
      generalize (Nd.fork a1 a2).high = na at *
      go_enter Tryz.func118, Tryz.ntmps118
      go_wp2_with fail
      refine (unhide HMa w (Below.refl _ _)).mono ?_
      rintro y w1 ⟨rfl, d1⟩
      go_wp2_with fail
      refine (unhide HMb w1 d1).mono ?_
      rintro y w2 ⟨rfl, x2⟩
      have d2 := d1.trans (x2.mono d1.size)
      clear x2 d1
      go_wp2_with fail
      refine (unhide HBo w2 d2).mono ?_
      rintro y w3 ⟨rfl, x3⟩
      have d3 := d2.trans (x3.mono d2.size)
      clear x3 d2
      go_wp2_with fail
      refine (unhide HHa w3 d3).mono ?_
      rintro y w4 ⟨rfl, hw4⟩
      have d4 : Below w.heap.size w w4 := by rw [hw4]; exact d3
      clear hw4 d3
      go_wp2_with fail
      refine (unhide HHb w4).mono ?_
      rintro y w5 ⟨rfl, x5⟩
      have d5 := d4.trans (x5.mono d4.size)
      clear x5 d4
      have x6 := (Below.refl w5.heap.size w5).alloc (Nat.le_refl _) (.cells #[.iface 175 (.pointer (some ⟨ga, 0, none⟩)), .iface 179 (.agg #[.pointer (some ⟨gb, 0, none⟩)]), .int .i64 zb, .int .i64 zr, .int .i64 zu, .int .i64 ze, .string zh, .string zt, .int .i64 (hf : Int)] 177)
      have HG := hide (push_get w5 (.cells #[.iface 175 (.pointer (some ⟨ga, 0, none⟩)), .iface 179 (.agg #[.pointer (some ⟨gb, 0, none⟩)]), .int .i64 zb, .int .i64 zr, .int .i64 zu, .int .i64 ze, .string zh, .string zt, .int .i64 (hf : Int)] 177))
      have HD := hide (d5.trans (x6.mono d5.size))
      have HS := hide d5.size
      clear x6 d5 HMa HMb HBo HHa HHb
      have hnum : wrap64 (max (na : Int) 1 + 1) = (hf : Int) := (unhide HM).2
      clear HM
      go_wp2_with fail
      go_ret
      exact ⟨_, rfl, unhide HG, unhide HS, unhide HD⟩
    | fork b1 b2 =>
      obtain ⟨ga, la, ra, rfl, fa, _⟩ := ha
      have hMa := fun (X : World) (h : Below w.heap.size w X) => forkM_at ga la ra _ _ X (bk9_b fa h)
      have hHa := fun (X : World) (h : Below w.heap.size w X) => forkH_at ga la ra _ _ X (bk9_b fa h)
      obtain ⟨gb, lb, rb, rfl, fb, _⟩ := hb
      have hMb := fun (X : World) (h : Below w.heap.size w X) => forkM_at gb lb rb _ _ X (bk9_b fb h)
      have hHb := fun (X : World) (h : Below w.heap.size w X) => forkH_at gb lb rb _ _ X (bk9_b fb h)
      simp only [Nd.txt] at hBo ⊢
      have e1 := weq9 (a1.txt ++ a2.txt)
      have e2 := weq9 (b1.txt ++ b2.txt)
      have e3 := weq9 ((a1.txt ++ a2.txt) ++ (b1.txt ++ b2.txt))
      rw [e1] at hMa hBo
      rw [e2] at hMb hBo
      rw [e3] at hBo
      clear e1 e2 e3
      have HMa := hide hMa
      have HMb := hide hMb
      have HHa := hide hHa
      have HHb := hide hHb
      have HBo := hide hBo
      clear hMa hMb hHa hHb hBo
      unfold forkC
      generalize hC : (a1.txt ++ a2.txt) ++ (b1.txt ++ b2.txt) = C at *
      clear hC
      generalize hA : a1.txt ++ a2.txt = LA at *
      clear hA
      generalize hB' : b1.txt ++ b2.txt = LB at *
      clear hB'
      unfold forkV
      generalize (szL LA).b = xb at *
      generalize (szL LA).r = xr at *
      generalize (szL LA).u = xu at *
      generalize (szL LA).e = xe at *
      generalize strOfNums (List.take 3 LA) = xh at *
      generalize strOfNums (tail3 LA) = xt at *
      generalize (szL LB).b = yb at *
      generalize (szL LB).r = yr at *
      generalize (szL LB).u = yu at *
      generalize (szL LB).e = ye at *
      generalize strOfNums (List.take 3 LB) = yh at *
      generalize strOfNums (tail3 LB) = yt at *
      generalize (szL C).b = zb at *
      generalize (szL C).r = zr at *
      generalize (szL C).u = zu at *
      generalize (szL C).e = ze at *
      generalize strOfNums (List.take 3 C) = zh at *
      generalize strOfNums (tail3 C) = zt at *
      generalize (Nd.fork a1 a2).high = na at *
      generalize (Nd.fork b1 b2).high = nb at *
      go_enter Tryz.func118, Tryz.ntmps118
      go_wp2_with fail
      refine (unhide HMa w (Below.refl _ _)).mono ?_
      rintro y w1 ⟨rfl, d1⟩
      go_wp2_with fail
      refine (unhide HMb w1 d1).mono ?_
      rintro y w2 ⟨rfl, x2⟩
      have d2 := d1.trans (x2.mono d1.size)
      clear x2 d1
      go_wp2_with fail
      refine (unhide HBo w2 d2).mono ?_
      rintro y w3 ⟨rfl, x3⟩
      have d3 := d2.trans (x3.mono d2.size)
      clear x3 d2
      go_wp2_with fail
      refine (unhide HHa w3 d3).mono ?_
      rintro y w4 ⟨rfl, hw4⟩
      have d4 : Below w.heap.size w w4 := by rw [hw4]; exact d3
      clear hw4 d3
      go_wp2_with fail
      refine (unhide HHb w4 d4).mono ?_
      rintro y w5 ⟨rfl, hw5⟩
      have d5 : Below w.heap.size w w5 := by rw [hw5]; exact d4
      clear hw5 d4
      have x6 := (Below.refl w5.heap.size w5).alloc (Nat.le_refl _) (.cells #[.iface 175 (.pointer (some ⟨ga, 0, none⟩)), .iface 175 (.pointer (some ⟨gb, 0, none⟩)), .int .i64 zb, .int .i64 zr, .int .i64 zu, .int .i64 ze, .string zh, .string zt, .int .i64 (hf : Int)] 177)
      have HG := hide (push_get w5 (.cells #[.iface 175 (.pointer (some ⟨ga, 0, none⟩)), .iface 175 (.pointer (some ⟨gb, 0, none⟩)), .int .i64 zb, .int .i64 zr, .int .i64 zu, .int .i64 ze, .string zh, .string zt, .int .i64 (hf : Int)] 177))
      have HD := hide (d5.trans (x6.mono d5.size))
      have HS := hide d5.size
      clear x6 d5 HMa HMb HBo HHa HHb
      have hnum : wrap64 (max (na : Int) (nb : Int) + 1) = (hf : Int) := (unhide HM).2
      clear HM
      go_wp2_with fail
      go_ret
      exact ⟨_, rfl, unhide HG, unhide HS, unhide HD⟩
end
section
theorem high_one : ∀ t : Nd, 1 ≤ t.high
  | .tip _ => Nat.le_refl _
  | .fork a b => by show 1 ≤ max a.high b.high + 1; omega
def balN (l r : Nd) : Nd :=
  if r.high + 1 < l.high then
    match l with
    | .fork o i => if i.high ≤ o.high then .fork o (.fork i r) else match i with | .fork a b => .fork (.fork o a) (.fork b r) | .tip x => .fork (.fork o (.tip x)) r
    | .tip x => .fork (.tip x) r
  else if l.high + 1 < r.high then
    match r with
    | .fork i o => if i.high ≤ o.high then .fork (.fork l i) o else match i with | .fork a b => .fork (.fork l a) (.fork b o) | .tip x => .fork l (.fork (.tip x) o)
    | .tip x => .fork l (.tip x)
  else .fork l r
theorem fork_txt (a b : Nd) : (Nd.fork a b).txt = a.txt ++ b.txt := rfl
theorem fork_high (a b : Nd) : (Nd.fork a b).high = max a.high b.high + 1 := rfl
theorem balN_txt (l r : Nd) : (balN l r).txt = l.txt ++ r.txt := by
  unfold balN
  split
  · split
    · split
      · simp [fork_txt]
      · split <;> simp [fork_txt]
    · simp [fork_txt]
  · split
    · split
      · split
        · simp [fork_txt]
        · split <;> simp [fork_txt]
      · simp [fork_txt]
    · simp [fork_txt]
def Bal : Nd → Prop
  | .tip _ => True
  | .fork a b => a.high ≤ b.high + 1 ∧ b.high ≤ a.high + 1 ∧ Bal a ∧ Bal b
theorem bal_fork (a b : Nd) : Bal (.fork a b) ↔ a.high ≤ b.high + 1 ∧ b.high ≤ a.high + 1 ∧ Bal a ∧ Bal b := Iff.rfl
def linkN (a b : Nd) : Nd :=
  if b.high + 1 < a.high then
    match a with
    | .fork l r => balN l (linkN r b)
    | .tip x => .fork (.tip x) b
  else if a.high + 1 < b.high then
    match b with
    | .fork l r => balN (linkN a l) r
    | .tip x => .fork a (.tip x)
  else .fork a b
termination_by SizeOf.sizeOf a + SizeOf.sizeOf b
theorem linkN_txt (a b : Nd) : (linkN a b).txt = a.txt ++ b.txt := by
  rw [linkN.eq_def]
  split
  · rename_i h1
    split
    · rename_i l r
      rw [balN_txt, linkN_txt r b, fork_txt, List.append_assoc]
    · rw [fork_txt]
  · split
    · rename_i h1 h2
      split
      · rename_i l r
        rw [balN_txt, linkN_txt a l, fork_txt, List.append_assoc]
      · rw [fork_txt]
    · rw [fork_txt]
termination_by SizeOf.sizeOf a + SizeOf.sizeOf b
def BalO : Option Nd → Prop
  | none => True
  | some t => Bal t
def hN (n : Nat) : Nat := if n ≤ 1 then 1 else hN (n - n / 2) + 1
termination_by n
decreasing_by omega
theorem hN_one {n : Nat} (h : n ≤ 1) : hN n = 1 := by unfold hN; rw [if_pos h]
theorem hN_big {n : Nat} (h : ¬ n ≤ 1) : hN n = hN (n - n / 2) + 1 := by rw [hN, if_neg h]
theorem hN_pos (n : Nat) : 1 ≤ hN n := by
  by_cases h : n ≤ 1
  · rw [hN_one h]; exact Nat.le_refl _
  · rw [hN_big h]; omega
theorem hN_mono : ∀ (k n m : Nat), n ≤ k → m ≤ n → hN m ≤ hN n := by
  intro k
  induction k with
  | zero => intro n m h1 h2; rw [hN_one (by omega)]; exact hN_pos n
  | succ k ih =>
    intro n m h1 h2
    by_cases h : m ≤ 1
    · rw [hN_one h]; exact hN_pos n
    · rw [hN_big h, hN_big (n := n) (by omega)]
      have := ih (n - n / 2) (m - m / 2) (by omega) (by omega)
      omega
theorem hN_next : ∀ (k n : Nat), n ≤ k → hN (n + 1) ≤ hN n + 1 := by
  intro k
  induction k with
  | zero => intro n h; rw [hN_one (by omega)]; omega
  | succ k ih =>
    intro n h
    by_cases h1 : n + 1 ≤ 1
    · rw [hN_one h1]; omega
    · rw [hN_big h1]
      by_cases h2 : n ≤ 1
      · rw [hN_one (n := n + 1 - (n + 1) / 2) (by omega)]; have := hN_pos n; omega
      · rw [hN_big h2]
        rcases (by omega : n + 1 - (n + 1) / 2 = n - n / 2 ∨ n + 1 - (n + 1) / 2 = n - n / 2 + 1) with e | e
        · rw [e]; omega
        · rw [e]; have := ih (n - n / 2) (by omega); omega
def TolB (n : Nat) (t : Nd) : Prop := Bal t ∧ t.high = hN n
theorem tolB_tip (l : List Int) : TolB 1 (.tip l) := ⟨trivial, (hN_one (Nat.le_refl _)).symm⟩
theorem tolB_fork {n : Nat} {a b : Nd} (h : 2 ≤ n) (ha : TolB (n / 2) a) (hb : TolB (n - n / 2) b) : TolB n (.fork a b) := by
  have h1 := hN_mono n (n - n / 2) (n / 2) (by omega) (by omega)
  have h2 : hN (n - n / 2) ≤ hN (n / 2) + 1 := by
    rcases (by omega : n - n / 2 = n / 2 ∨ n - n / 2 = n / 2 + 1) with e | e
    · rw [e]; omega
    · rw [e]; exact hN_next _ _ (Nat.le_refl _)
  refine ⟨(bal_fork a b).2 ⟨by rw [ha.2, hb.2]; omega, by rw [ha.2, hb.2]; omega, ha.1, hb.1⟩, ?_⟩
  rw [fork_high, ha.2, hb.2, hN_big (n := n) (by omega)]
  omega
end
section
attribute [local go_sem] Oper.semAt_some
structure LfO (W : World) (a : Option Addr) (gs : List Nat) (ps : List (List Int)) : Prop where
  n : gs.length = ps.length
  l : ∀ i, i < gs.length → IsLf W (gs.getD i 0) (ps.getD i []) ∧ 0 < (ps.getD i []).length ∧ (ps.getD i []).length ≤ 4096 ∧ ∀ x ∈ ps.getD i [], 0 ≤ x ∧ x ≤ 255
  a : gs = [] ∨ ∃ g off, a = some ⟨g, off, none⟩ ∧ g < W.heap.size ∧ ∀ i, i < gs.length → W.cell? ⟨g, off + i, none⟩ = some (.pointer (some ⟨gs.getD i 0, 0, none⟩))
theorem LfO.below {W W' : World} {a : Option Addr} {gs : List Nat} {ps : List (List Int)} (h : LfO W a gs ps) (hb : Below W.heap.size W W') : LfO W' a gs ps :=
  ⟨h.n, fun i hi => ⟨(h.l i hi).1.on hb, (h.l i hi).2⟩, by
    rcases h.a with h1 | ⟨g, off, e, hg, hc⟩
    · exact Or.inl h1
    · exact Or.inr ⟨g, off, e, Nat.lt_of_lt_of_le hg hb.size, fun i hi => (hb.cell (p := ⟨g, off + i, none⟩) hg).trans (hc i hi)⟩⟩
theorem LfO.take {W : World} {a : Option Addr} {gs : List Nat} {ps : List (List Int)} (h : LfO W a gs ps) (k : Nat) : LfO W a (gs.take k) (ps.take k) := by
  have e : ∀ i, i < (gs.take k).length → (gs.take k).getD i 0 = gs.getD i 0 ∧ (ps.take k).getD i [] = ps.getD i [] ∧ i < gs.length := fun i hi => by
    rw [List.length_take] at hi
    exact ⟨by rw [List.getD_eq_getElem?_getD, List.getD_eq_getElem?_getD, List.getElem?_take_of_lt (by omega)], by rw [List.getD_eq_getElem?_getD, List.getD_eq_getElem?_getD, List.getElem?_take_of_lt (by omega)], by omega⟩
  refine ⟨by simp [h.n], fun i hi => ?_, ?_⟩
  · obtain ⟨e1, e2, e3⟩ := e i hi
    rw [e1, e2]
    exact h.l i e3
  · rcases h.a with h1 | ⟨g, off, e', hg, hc⟩
    · exact Or.inl (by rw [h1]; simp)
    · exact Or.inr ⟨g, off, e', hg, fun i hi => by obtain ⟨e1, _, e3⟩ := e i hi; rw [e1]; exact hc i e3⟩
theorem LfO.drop {W : World} {g off : Nat} {gs : List Nat} {ps : List (List Int)} (h : LfO W (some ⟨g, off, none⟩) gs ps) (k : Nat) (hk : k < gs.length) : LfO W (some ⟨g, off + k, none⟩) (gs.drop k) (ps.drop k) := by
  have e : ∀ i, i < (gs.drop k).length → (gs.drop k).getD i 0 = gs.getD (k + i) 0 ∧ (ps.drop k).getD i [] = ps.getD (k + i) [] ∧ k + i < gs.length := fun i hi => by
    rw [List.length_drop] at hi
    exact ⟨by rw [List.getD_eq_getElem?_getD, List.getD_eq_getElem?_getD, List.getElem?_drop], by rw [List.getD_eq_getElem?_getD, List.getD_eq_getElem?_getD, List.getElem?_drop], by omega⟩
  refine ⟨by simp [h.n], fun i hi => ?_, ?_⟩
  · obtain ⟨e1, e2, e3⟩ := e i hi
    rw [e1, e2]
    exact h.l _ e3
  · rcases h.a with h1 | ⟨g', off', e', hg, hc⟩
    · rw [h1] at hk; simp at hk
    · obtain ⟨rfl, rfl⟩ : g = g' ∧ off = off' := by simpa using e'
      exact Or.inr ⟨g, off + k, rfl, hg, fun i hi => by obtain ⟨e1, _, e3⟩ := e i hi; rw [e1, Nat.add_assoc]; exact hc _ e3⟩
theorem flat_pos {ps : List (List Int)} (h : 0 < ps.length) (hp : ∀ i, i < ps.length → 0 < (ps.getD i []).length) : 0 < ps.flatten.length := by
  cases ps with
  | nil => simp at h
  | cons p ps =>
    have := hp 0 (by simp)
    simp at this
    rw [List.flatten_cons, List.length_append]
    omega
theorem tol_small (a : Option Addr) (c : Nat) (gs : List Nat) (ps : List (List Int)) (w : World) (h2 : gs.length < 2) (hL : LfO w a gs ps) :
    Calls Tryz.prog 91 #[.slice a gs.length c] w fun y w' => ∃ v o, y = .returned v ∧ NdV w' v o ∧ txtO o = ps.flatten ∧ (∀ t, o = some t → TolB gs.length t) ∧ Below w.heap.size w w' := by
  match gs, h2 with
  | [], _ =>
    obtain rfl : ps = [] := List.length_eq_zero_iff.1 (by have := hL.n; simpa using this.symm)
    clear hL
    go_enter Tryz.func91, Tryz.ntmps91
    go_wp2_with fail
    go_ret
    exact ⟨_, none, rfl, rfl, rfl, (fun t e => by cases e), Below.refl _ _⟩
  | [g], _ =>
    obtain ⟨p, rfl⟩ : ∃ p, ps = [p] := List.length_eq_one_iff.1 (by have := hL.n; simpa using this.symm)
    obtain ⟨l1, l2, l3, l4⟩ := hL.l 0 (by simp)
    obtain ⟨gl, off, rfl, _, hc⟩ : ∃ gl off, a = some ⟨gl, off, none⟩ ∧ gl < w.heap.size ∧ ∀ i, i < [g].length → w.cell? ⟨gl, off + i, none⟩ = some (.pointer (some ⟨[g].getD i 0, 0, none⟩)) := by
      rcases hL.a with h | h
      · cases h
      · exact h
    have c0 : w.cell? ⟨gl, off, none⟩ = some (.pointer (some ⟨g, 0, none⟩)) := by have := hc 0 (by simp); simpa using this
    have HN : Hid (NdV w (tipV g) (some (.tip p))) := hide ⟨g, rfl, l1, l2, l3, l4⟩
    clear hL l1 l2 l3 l4 hc
    go_enter Tryz.func91, Tryz.ntmps91
    go_wp2_with fail
    go_ret
    exact ⟨_, some (.tip p), rfl, unhide HN, by simp [txtO, Nd.txt], (fun t e => by cases e; exact tolB_tip p), Below.refl _ _⟩
theorem tol_big (a : Option Addr) (c : Nat) (gs : List Nat) (ps : List (List Int)) (w : World) (h2 : 2 ≤ gs.length) (hL : LfO w a gs ps) (hc : gs.length ≤ c) (hfl : ps.flatten.length ≤ 268435456) (hl : gs.length ≤ 268435456) (hW : Wt w)
    (h3 : ∀ X, Below w.heap.size w X → Calls Tryz.prog 91 #[.slice a (gs.length / 2) c] X fun y w' => ∃ v t, y = .returned v ∧ IsNd w' v t ∧ t.txt = (ps.take (gs.length / 2)).flatten ∧ TolB (gs.length / 2) t ∧ Below X.heap.size X w')
    (h4 : ∀ g off, a = some ⟨g, off, none⟩ → ∀ X, Below w.heap.size w X → Calls Tryz.prog 91 #[.slice (some ⟨g, off + gs.length / 2, none⟩) (gs.length - gs.length / 2) (c - gs.length / 2)] X fun y w' => ∃ v t, y = .returned v ∧ IsNd w' v t ∧ t.txt = (ps.drop (gs.length / 2)).flatten ∧ TolB (gs.length - gs.length / 2) t ∧ Below X.heap.size X w') :
    Calls Tryz.prog 91 #[.slice a gs.length c] w fun y w' => ∃ v o, y = .returned v ∧ NdV w' v o ∧ txtO o = ps.flatten ∧ (∀ t, o = some t → TolB gs.length t) ∧ Below w.heap.size w w' := by
  obtain ⟨g, off, rfl⟩ : ∃ g off, a = some ⟨g, off, none⟩ := by
    rcases hL.a with h | ⟨g, off, e, _⟩
    · rw [h] at h2; simp at h2
    · exact ⟨g, off, e⟩
  have HTB := hide fun (a b : Nd) (ha : TolB (gs.length / 2) a) (hb : TolB (gs.length - gs.length / 2) b) => tolB_fork h2 ha hb
  have H3 := hide h3
  have H4 := hide (h4 g off rfl)
  have hsp : ps.flatten = (ps.take (gs.length / 2)).flatten ++ (ps.drop (gs.length / 2)).flatten := by rw [← List.flatten_append, List.take_append_drop]
  have HSP := hide hsp
  have HFL : Hid ((ps.take (gs.length / 2)).flatten.length + (ps.drop (gs.length / 2)).flatten.length ≤ 268435456) := hide (by rw [hsp, List.length_append] at hfl; exact hfl)
  have HWW := hide fun (X : World) (h : Below w.heap.size w X) => hW.below h
  clear h3 h4 hsp hfl hW hL
  have t1 : ((gs.length : Int) == 0) = false := by rw [beq_eq_false_iff_ne]; omega
  have t2 : ((gs.length : Int) == 1) = false := by rw [beq_eq_false_iff_ne]; omega
  have hq1 : Int.tdiv (gs.length : Int) 2 = ((gs.length / 2 : Nat) : Int) := by rw [Int.tdiv_eq_ediv_of_nonneg (by omega)]; omega
  have hh1 : gs.length / 2 ≤ c := by omega
  have hh2 : gs.length / 2 ≤ gs.length := by omega
  have hh3 : ¬ c = gs.length / 2 := by omega
  have hwh : wrap64 ((gs.length / 2 : Nat) : Int) = ((gs.length / 2 : Nat) : Int) := by unfold wrap64; omega
  generalize hhh : gs.length / 2 = hh at *
  clear hhh h2 hl
  go_enter Tryz.func91, Tryz.ntmps91
  go_wp2_with fail
  have D0 := (Below.refl w.heap.size w).drew
  refine regionL (S := fun _ => True) (fun _ => false) (by kernel_rfl) ?_
  generalize w.drew = y0 at *
  refine anyL_take (i := 0) (v := ?vtl0) rfl (by kernel_rfl) (by kernel_rfl) (by kernel_rfl) (by kernel_rfl) (fun _ _ _ h => h) (Or.inl ⟨by rfl, ?htl0⟩) (trivial) ?_
  case htl0 => (intro w hSw; (try dsimp only at hSw); go_simp) <;> with_reducible rfl
  simp only [Act.put, List.getElem_toArray, List.getElem_cons_zero, List.setIfInBounds_toArray, List.set_cons_zero, List.set_cons_succ]
  refine anyL_take (i := 1) (v := ?vtl1) rfl (by kernel_rfl) (by kernel_rfl) (by kernel_rfl) (by kernel_rfl) (fun _ _ _ h => h) (Or.inl ⟨by rfl, ?htl1⟩) (trivial) ?_
  case htl1 => (intro w hSw; (try dsimp only at hSw); go_simp) <;> with_reducible rfl
  simp only [Act.put, List.getElem_toArray, List.getElem_cons_zero, List.getElem_cons_succ, List.setIfInBounds_toArray, List.set_cons_zero, List.set_cons_succ]
  refine anyL_take (i := 2) (v := ?vtl2) rfl (by kernel_rfl) (by kernel_rfl) (by kernel_rfl) (by kernel_rfl) (fun _ _ _ h => h) (Or.inl ⟨by rfl, ?htl2⟩) (trivial) ?_
  case htl2 => (intro w hSw; (try dsimp only at hSw); go_simp) <;> with_reducible rfl
  simp only [Act.put, List.getElem_toArray, List.getElem_cons_zero, List.getElem_cons_succ, List.setIfInBounds_toArray, List.set_cons_zero, List.set_cons_succ]
  refine anyL_take (i := 4) (v := ?vtl3) rfl (by kernel_rfl) (by kernel_rfl) (by kernel_rfl) (by kernel_rfl) (fun _ _ _ h => h) (Or.inl ⟨by rfl, ?htl3⟩) (trivial) ?_
  case htl3 => (intro w hSw; (try dsimp only at hSw); go_simp) <;> with_reducible rfl
  simp only [Act.put, List.getElem_toArray, List.getElem_cons_zero, List.getElem_cons_succ, List.setIfInBounds_toArray, List.set_cons_zero, List.set_cons_succ]
  refine anyL_take (i := 5) (v := ?vtl4) rfl (by kernel_rfl) (by kernel_rfl) (by kernel_rfl) (by kernel_rfl) (fun _ _ _ h => h) (Or.inl ⟨by rfl, ?htl4⟩) (trivial) ?_
  case htl4 => (intro w hSw; (try dsimp only at hSw); go_simp) <;> with_reducible rfl
  simp only [Act.put, List.getElem_toArray, List.getElem_cons_zero, List.getElem_cons_succ, List.setIfInBounds_toArray, List.set_cons_zero, List.set_cons_succ]
  refine anyL_take (i := 6) (v := ?vtl5) rfl (by kernel_rfl) (by kernel_rfl) (by kernel_rfl) (by kernel_rfl) (fun _ _ _ h => h) (Or.inl ⟨by rfl, ?htl5⟩) (trivial) ?_
  case htl5 => (intro w hSw; (try dsimp only at hSw); go_simp) <;> with_reducible rfl
  simp only [Act.put, List.getElem_toArray, List.getElem_cons_zero, List.getElem_cons_succ, List.setIfInBounds_toArray, List.set_cons_zero, List.set_cons_succ]
  refine anyL_ready (rs := [3]) (by kernel_rfl) (by simp) ?_
  refine AllL.cons rfl (fun K hK => ?_) AllL.nil
  go_simp
  refine (unhide H3 _ D0).mono ?_
  rintro e y1 ⟨va, ta, rfl, na, e1, q1, x1⟩
  have HT1 := hide e1
  have HQ1 := hide q1
  clear q1
  have D1 := D0.trans (x1.mono D0.size)
  refine unhide hK _ _ (fun _ => trivial) ?_
  clear hK K x1 e1 D0 H3
  refine anyL_ready (rs := [7]) (by kernel_rfl) (by simp) ?_
  refine AllL.cons rfl (fun K hK => ?_) AllL.nil
  go_simp
  refine (unhide H4 _ D1).mono ?_
  rintro e y2 ⟨vb, tb, rfl, nb, e2, q2, x2⟩
  have HT2 := hide e2
  have HQ2 := hide q2
  clear q2
  have na2 := IsNd.on x2 na
  have D2 := D1.trans (x2.mono D1.size)
  refine unhide hK _ _ (fun _ => trivial) ?_
  clear hK K x2 e2 D1 H4 na
  refine anyL_ready (rs := [8]) (by kernel_rfl) (by simp) ?_
  refine AllL.cons rfl (fun K hK => ?_) AllL.nil
  go_simp
  refine (newFork9_at va vb ta tb _ na2 nb (by rw [unhide HT1, unhide HT2]; exact unhide HFL) (unhide HWW _ D2)).mono ?_
  rintro e y3 ⟨gf, rfl, kf, _, x3⟩
  have HN : Hid (NdV y3 (forkV gf) (some (.fork ta tb))) := hide ⟨gf, va, vb, rfl, kf, IsNd.on x3 na2, IsNd.on x3 nb⟩
  have HD := hide (D2.trans (x3.mono D2.size))
  refine unhide hK _ _ (fun _ => trivial) ?_
  clear hK K x3 kf D2 na2 nb
  refine anyL_take (i := 9) (v := ?vtl6) rfl (by kernel_rfl) (by kernel_rfl) (by kernel_rfl) (by kernel_rfl) (fun _ _ _ h => h) (Or.inl ⟨by rfl, ?htl6⟩) (trivial) ?_
  case htl6 => (intro w hSw; (try dsimp only at hSw); go_simp) <;> with_reducible rfl
  simp only [Act.put, List.getElem_toArray, List.getElem_cons_zero, List.getElem_cons_succ, List.setIfInBounds_toArray, List.set_cons_zero, List.set_cons_succ]
  refine anyL_take (i := 10) (v := ?vtl7) rfl (by kernel_rfl) (by kernel_rfl) (by kernel_rfl) (by kernel_rfl) (fun _ _ _ h => h) (Or.inl ⟨by rfl, ?htl7⟩) (trivial) ?_
  case htl7 => (intro w hSw; (try dsimp only at hSw); go_simp) <;> with_reducible rfl
  simp only [Act.put, List.getElem_toArray, List.getElem_cons_zero, List.getElem_cons_succ, List.setIfInBounds_toArray, List.set_cons_zero, List.set_cons_succ]
  refine anyL_done (by kernel_rfl) ?_ _
  go_wp2_with fail
  go_ret
  exact ⟨_, some (.fork ta tb), rfl, unhide HN, by rw [unhide HSP, ← unhide HT1, ← unhide HT2]; rfl, (fun t e => by cases e; exact unhide HTB ta tb (unhide HQ1) (unhide HQ2)), unhide HD⟩
theorem tol9_at : ∀ (n : Nat) (a : Option Addr) (c : Nat) (gs : List Nat) (ps : List (List Int)) (w : World), gs.length ≤ n → LfO w a gs ps → gs.length ≤ c → ps.flatten.length ≤ 268435456 → gs.length ≤ 268435456 → Wt w →
    Calls Tryz.prog 91 #[.slice a gs.length c] w fun y w' => ∃ v o, y = .returned v ∧ NdV w' v o ∧ txtO o = ps.flatten ∧ (∀ t, o = some t → TolB gs.length t) ∧ Below w.heap.size w w' := by
  intro n
  induction n with
  | zero => intro a c gs ps w hn hL _ _ _ _; exact tol_small a c gs ps w (by omega) hL
  | succ n ih =>
    intro a c gs ps w hn hL hc hfl hl hW
    by_cases h2 : gs.length < 2
    · exact tol_small a c gs ps w h2 hL
    · have hn2 := hL.n
      have hsp : ps.flatten = (ps.take (gs.length / 2)).flatten ++ (ps.drop (gs.length / 2)).flatten := by rw [← List.flatten_append, List.take_append_drop]
      have hfl2 := hfl
      rw [hsp, List.length_append] at hfl2
      have some_of : ∀ (X : World) (v : Value) (o : Option Nd) (L : List Int), NdV X v o → txtO o = L → 0 < L.length → ∃ t, IsNd X v t ∧ t.txt = L ∧ o = some t := fun X v o L h1 h3 h4 => by
        cases o with
        | none => rw [← h3] at h4; simp [txtO] at h4
        | some t => exact ⟨t, h1, h3, rfl⟩
      refine tol_big a c gs ps w (by omega) hL hc hfl hl hW ?_ ?_
      · intro X hX
        have hL2 := (hL.take (gs.length / 2)).below hX
        have := ih a c (gs.take (gs.length / 2)) (ps.take (gs.length / 2)) X (by simp; omega) hL2 (by simp; omega) (by omega) (by simp; omega) (hW.below hX)
        simp only [show (gs.take (gs.length / 2)).length = gs.length / 2 by simp; omega] at this
        refine this.mono ?_
        rintro y X' ⟨v, o, rfl, h5, h6, hq, h7⟩
        obtain ⟨t, h8, h9, h10⟩ := some_of X' v o _ h5 h6 (flat_pos (by simp; omega) (fun i hi => (hL2.l i (by simp at hi ⊢; omega)).2.1))
        exact ⟨v, t, rfl, h8, h9, hq t h10, h7⟩
      · intro g off e X hX
        subst e
        have hL2 := (hL.drop (gs.length / 2) (by omega)).below hX
        have := ih (some ⟨g, off + gs.length / 2, none⟩) (c - gs.length / 2) (gs.drop (gs.length / 2)) (ps.drop (gs.length / 2)) X (by simp; omega) hL2 (by simp; omega) (by omega) (by simp; omega) (hW.below hX)
        simp only [show (gs.drop (gs.length / 2)).length = gs.length - gs.length / 2 by simp] at this
        refine this.mono ?_
        rintro y X' ⟨v, o, rfl, h5, h6, hq, h7⟩
        obtain ⟨t, h8, h9, h10⟩ := some_of X' v o _ h5 h6 (flat_pos (by simp; omega) (fun i hi => (hL2.l i (by simp at hi ⊢; omega)).2.1))
        exact ⟨v, t, rfl, h8, h9, hq t h10, h7⟩
end
section
attribute [local go_sem] Oper.semAt_some
theorem bdr_max {l : List Int} {b m : Nat} (hb : b ≤ l.length) : bdr l b m ≤ b + m := by
  unfold bdr
  split
  · omega
  · split
    · omega
    · have := flr_le l (b + m); omega
theorem pcA_each {l : List Int} {m : Nat} (hm : 1 ≤ m) : ∀ f b, b ≤ l.length → ∀ p ∈ pcA l m f b, 0 < p.length ∧ p.length ≤ m
  | 0, _, _, p, hp => by cases hp
  | f + 1, b, hb, p, hp => by
    unfold pcA at hp
    split at hp
    · rename_i hlt
      obtain ⟨e1, e2⟩ := bdr_in hlt hm
      have e3 := bdr_max (l := l) (b := b) (m := m) hb
      rcases List.mem_cons.1 hp with rfl | hp
      · simp only [List.length_drop, List.length_take]; omega
      · exact pcA_each hm f _ e2 p hp
    · cases hp
theorem pcs_each {l : List Int} {m : Nat} (hm : 1 ≤ m) : ∀ p ∈ pcs l m, 0 < p.length ∧ p.length ≤ m := pcA_each hm _ _ (Nat.zero_le _)
theorem getD_mem9 {α : Type} {l : List α} {i : Nat} {d : α} (h : i < l.length) : l.getD i d ∈ l := by
  rw [List.getD_eq_getElem?_getD, List.getElem?_eq_getElem h]
  exact List.getElem_mem h
theorem lfo_of {W : World} {B : Nat} {v : Value} {gs : List Nat} {l : List Int} (hl : ∀ x ∈ l, 0 ≤ x ∧ x ≤ 255) (h : Lvs W B gs (pcs l 4096)) (o : W.ownsRow B 160 1 v gs.length (ptrs gs)) : ∃ a c, v = .slice a gs.length c ∧ gs.length ≤ c ∧ LfO W a gs (pcs l 4096) := by
  have hc := o
  have hl9 : ∀ i, i < gs.length → IsLf W (gs.getD i 0) ((pcs l 4096).getD i []) ∧ 0 < ((pcs l 4096).getD i []).length ∧ ((pcs l 4096).getD i []).length ≤ 4096 ∧ ∀ x ∈ (pcs l 4096).getD i [], 0 ≤ x ∧ x ≤ 255 := fun i hi => by
    have hm := getD_mem9 (l := pcs l 4096) (d := []) (i := i) (by rw [← h.1]; exact hi)
    exact ⟨(h.2 i hi).1, (pcs_each (by decide) _ hm).1, (pcs_each (by decide) _ hm).2, pcs_in hl _ hm⟩
  rcases o.2 with ⟨rfl, h0⟩ | ⟨g, cap, cur, rfl, _, hg, hle, _⟩
  · exact ⟨none, 0, by rw [h0], by omega, ⟨h.1, hl9, Or.inl (List.length_eq_zero_iff.1 h0)⟩⟩
  · refine ⟨_, cap, rfl, hle, ⟨h.1, hl9, Or.inr ⟨g, 0, rfl, (Array.getElem?_eq_some_iff.1 hg).1, fun i hi => ?_⟩⟩⟩
    have := World.ownsRow.cells hc rfl i (.pointer (some ⟨gs.getD i 0, 0, none⟩)) (by simp [ptrs, List.getElem?_eq_getElem hi, List.getD])
    rwa [Addr.add_lit] at this
theorem treeOf9_at (a0 : Option Addr) (cap : Nat) (l : List Int) (w : World) (hB : IsN w a0 cap l) (hl : l.length ≤ 268435456) (hW : Wt w) :
    Calls Tryz.prog 55 #[.slice a0 l.length cap] w fun y w' => ∃ v o, y = .returned v ∧ NdV w' v o ∧ txtO o = l ∧ BalO o ∧ Below w.heap.size w w' := by
  have HIN := hide hB.1.2.2.2
  have hC := Cut_at a0 cap l 4096 w hB hW (by decide) (by decide) hl
  have HWW := hide fun (X : World) (h : Below w.heap.size w X) => hW.below h
  have hpl := pcs_len (l := l) (m := 4096) (by decide)
  have hpf := pcs_flat (l := l) (m := 4096) (by decide)
  clear hB hW
  go_enter Tryz.func55, Tryz.ntmps55
  go_wp2_with fail
  refine hC.mono ?_
  rintro y w1 ⟨v, gs, rfl, o1, k1, x1⟩
  obtain ⟨a, c, rfl, hc, hL⟩ := lfo_of (unhide HIN) k1 o1
  have hgs := k1.1
  have hT := tol9_at gs.length a c gs (pcs l 4096) w1 (Nat.le_refl _) hL hc (by rw [hpf]; exact hl) (by omega) (unhide HWW _ x1)
  rw [hpf] at hT
  have HT := hide hT
  clear hC o1 k1 hL hT hgs hpl hpf hc hl
  go_wp2_with fail
  refine (unhide HT).mono ?_
  rintro y w2 ⟨v2, o, rfl, n2, e2, q2, x2⟩
  have HQ : Hid (BalO o) := hide (by cases o with | none => exact trivial | some t => exact (q2 t rfl).1)
  clear q2
  have HN := hide n2
  have HE := hide e2
  have HD := hide (x1.trans (x2.mono x1.size))
  clear HT n2 e2 x1 x2
  go_wp2_with fail
  go_ret
  exact ⟨_, o, rfl, unhide HN, unhide HE, unhide HQ, unhide HD⟩
theorem NdV.form {W : World} {v : Value} {o : Option Nd} (h : NdV W v o) : v = .nilIface ∨ ∃ T u, v = .iface T u := by
  cases o with
  | none => exact Or.inl h
  | some t =>
    cases t with
    | tip l => obtain ⟨g, rfl, _⟩ := h; exact Or.inr ⟨_, _, rfl⟩
    | fork a b => obtain ⟨g, va, vb, rfl, _⟩ := h; exact Or.inr ⟨_, _, rfl⟩
theorem New9_at (a0 : Option Addr) (cap : Nat) (l : List Int) (w : World) (hB : IsN w a0 cap l) (hl : l.length ≤ 268435456) (hW : Wt w) :
    Calls Tryz.prog 22 #[.slice a0 l.length cap] w fun y w' => ∃ g o, y = .returned (.tuple #[.pointer (some ⟨g, 0, none⟩), .int .i64 0]) ∧ IsRo w' g o ∧ txtO o = l ∧ BalO o ∧ w.heap.size ≤ g ∧ Below w.heap.size w w' := by
  have hT := treeOf9_at a0 cap l w hB hl hW
  have t1 : decide ((l.length : Int) > 268435456) = false := decide_eq_false (by omega)
  have t2 : decide ((268435456 : Int) < (l.length : Int)) = false := decide_eq_false (by omega)
  have t3 : decide (268435456 < l.length) = false := decide_eq_false (by omega)
  clear hB hW hl
  go_enter Tryz.func22, Tryz.ntmps22
  go_wp2_with fail
  refine hT.mono ?_
  rintro y w1 ⟨v, o, rfl, n1, e1, qb, x1⟩
  have HQ := hide qb
  clear qb
  have x2 := (Below.refl w1.heap.size w1).alloc (Nat.le_refl _) (.cells #[v] 121)
  have g2 := push_get w1 (.cells #[v] 121)
  have HR : Hid (IsRo (w1.alloc (.cells #[v] 121)) w1.heap.size o) := hide ⟨v, g2, n1.on x2⟩
  have hv := n1.form
  have HE := hide e1
  have HS := hide x1.size
  have HD := hide (x1.trans (x2.mono x1.size))
  clear hT n1 e1 x1 x2 g2 t1 t2 t3
  rcases hv with rfl | ⟨T, u, rfl⟩
  · go_wp2_with fail
    refine bodyPost_ret (results_tmp2 rfl _ _ _) rfl ⟨_, o, rfl, unhide HR, unhide HE, unhide HQ, unhide HS, unhide HD⟩
  · go_wp2_with fail
    refine bodyPost_ret (results_tmp2 rfl _ _ _) rfl ⟨_, o, rfl, unhide HR, unhide HE, unhide HQ, unhide HS, unhide HD⟩
end
section
attribute [local go_sem] Oper.semAt_some
theorem taTF (v : Value) (w : World) : (Instr.typeAssert (.iface 179 v) 95 175 true).run Tryz.prog w = .ok (.tuple #[.pointer none, .bool false]) w := by kernel_rfl
theorem taTT (v : Value) (w : World) : (Instr.typeAssert (.iface 179 v) 95 179 true).run Tryz.prog w = .ok (.tuple #[v, .bool true]) w := by kernel_rfl
theorem taFF (v : Value) (w : World) : (Instr.typeAssert (.iface 175 v) 95 175 true).run Tryz.prog w = .ok (.tuple #[v, .bool true]) w := by kernel_rfl
theorem taFT (v : Value) (w : World) : (Instr.typeAssert (.iface 175 v) 95 179 true).run Tryz.prog w = .ok (.tuple #[.agg #[.pointer none], .bool false]) w := by kernel_rfl
attribute [local go_sem] taTF taTT taFF taFT
def Nd.last : Nd → List Int
  | .tip l => l
  | .fork _ b => b.last
def Nd.first : Nd → List Int
  | .tip l => l
  | .fork a _ => a.first
theorem lastLeaf9_at : ∀ (t : Nd) (v : Value) (w : World), IsNd w v t →
    Calls Tryz.prog 93 #[v] w fun y w' => ∃ g, y = .returned (.pointer (some ⟨g, 0, none⟩)) ∧ IsLf w' g t.last ∧ Below w.heap.size w w'
  | .tip l, v, w, h => by
    obtain ⟨g, rfl, hf, _⟩ := h
    have b0 := (Below.refl w.heap.size w).alloc (Nat.le_refl _) (.cells #[.pointer (some ⟨g, 0, none⟩)] 179)
    have HF := hide (hf.on b0)
    have HD := hide b0
    have g0 := push_get w (.cells #[.pointer (some ⟨g, 0, none⟩)] 179)
    have c0 : (w.alloc (.cells #[.pointer (some ⟨g, 0, none⟩)] 179)).cell? ⟨w.heap.size, 0, none⟩ = some (.pointer (some ⟨g, 0, none⟩)) := by simp only [World.cell?, g0]; rfl
    clear hf b0 g0
    unfold tipV
    go_enter Tryz.func93, Tryz.ntmps93
    go_wp2_with fail
    go_ret
    exact ⟨g, rfl, unhide HF, unhide HD⟩
  | .fork a b, v, w, h => by
    obtain ⟨g, va, vb, rfl, hc, _, hb⟩ := h
    have hI := lastLeaf9_at b vb w hb
    unfold forkC at hc
    obtain ⟨c0, c1, _⟩ := cells9 hc
    clear hc hb
    unfold forkV
    go_enter Tryz.func93, Tryz.ntmps93
    go_wp2_with fail
    refine hI.mono ?_
    rintro y w1 ⟨gl, rfl, kl, xl⟩
    clear hI
    go_wp2_with fail
    go_ret
    exact ⟨gl, rfl, kl, xl⟩
theorem firstLeaf9_at : ∀ (t : Nd) (v : Value) (w : World), IsNd w v t →
    Calls Tryz.prog 94 #[v] w fun y w' => ∃ g, y = .returned (.pointer (some ⟨g, 0, none⟩)) ∧ IsLf w' g t.first ∧ Below w.heap.size w w'
  | .tip l, v, w, h => by
    obtain ⟨g, rfl, hf, _⟩ := h
    have b0 := (Below.refl w.heap.size w).alloc (Nat.le_refl _) (.cells #[.pointer (some ⟨g, 0, none⟩)] 179)
    have HF := hide (hf.on b0)
    have HD := hide b0
    have g0 := push_get w (.cells #[.pointer (some ⟨g, 0, none⟩)] 179)
    have c0 : (w.alloc (.cells #[.pointer (some ⟨g, 0, none⟩)] 179)).cell? ⟨w.heap.size, 0, none⟩ = some (.pointer (some ⟨g, 0, none⟩)) := by simp only [World.cell?, g0]; rfl
    clear hf b0 g0
    unfold tipV
    go_enter Tryz.func94, Tryz.ntmps94
    go_wp2_with fail
    go_ret
    exact ⟨g, rfl, unhide HF, unhide HD⟩
  | .fork a b, v, w, h => by
    obtain ⟨g, va, vb, rfl, hc, ha, _⟩ := h
    have hI := firstLeaf9_at a va w ha
    unfold forkC at hc
    obtain ⟨c0, c1, _⟩ := cells9 hc
    clear hc ha
    unfold forkV
    go_enter Tryz.func94, Tryz.ntmps94
    go_wp2_with fail
    refine hI.mono ?_
    rintro y w1 ⟨gl, rfl, kl, xl⟩
    clear hI
    go_wp2_with fail
    go_ret
    exact ⟨gl, rfl, kl, xl⟩
end
section
attribute [local go_sem] Oper.semAt_some taTF taTT taFF taFT
def Nd.setLast (p : List Int) : Nd → Nd
  | .tip _ => .tip p
  | .fork a b => .fork a (b.setLast p)
theorem withLast9_at (gl : Nat) (p : List Int) (h1 : 0 < p.length) (h2 : p.length ≤ 4096) (h3 : ∀ x ∈ p, 0 ≤ x ∧ x ≤ 255) : ∀ (t : Nd) (v : Value) (w : World), IsNd w v t → IsLf w gl p → (t.setLast p).txt.length ≤ 268435456 → Wt w →
    Calls Tryz.prog 97 #[v, .pointer (some ⟨gl, 0, none⟩)] w fun y w' => ∃ v', y = .returned v' ∧ IsNd w' v' (t.setLast p) ∧ Below w.heap.size w w'
  | .tip l, v, w, h, hf, _, _ => by
    obtain ⟨g, rfl, _⟩ := h
    have HN : Hid (IsNd w (tipV gl) (.tip p)) := hide ⟨gl, rfl, hf, h1, h2, h3⟩
    clear hf
    unfold tipV
    go_enter Tryz.func97, Tryz.ntmps97
    go_wp2_with fail
    go_ret
    exact ⟨_, rfl, unhide HN, Below.refl _ _⟩
  | .fork a b, v, w, h, hf, hn, hW => by
    obtain ⟨g, va, vb, rfl, hc, ha, hb⟩ := h
    have D0 := (Below.refl w.heap.size w).drew
    have hn2 : a.txt.length + (b.setLast p).txt.length ≤ 268435456 := by simpa [Nd.setLast, Nd.txt] using hn
    have hI := withLast9_at gl p h1 h2 h3 b vb w.drew (IsNd.on D0 hb) (hf.on D0) (by omega) (hW.below D0)
    have HI := hide hI
    have HA := hide ha
    have HN2 := hide hn2
    have HWW := hide fun (X : World) (h : Below w.heap.size w X) => hW.below h
    have HBK := hide fun (X : World) (h : Below w.heap.size w X) => bk9_on hc h
    have HSW : Hid (∀ X : World, Below w.heap.size w X → (fun w' : World => w'.cell? ⟨g, 0, none⟩ = some va ∧ w'.cell? ⟨g, 1, none⟩ = some vb) X) := hide fun X h => by
      have h9 := unhide HBK X h
      unfold forkC at h9
      obtain ⟨c0, c1, _⟩ := cells9 h9
      exact ⟨c0, c1⟩
    clear hI ha hb hn hn2 hW hc hf HBK
    unfold forkV
    go_enter Tryz.func97, Tryz.ntmps97
    go_wp2_with fail
    refine regionL (S := fun w' => w'.cell? ⟨g, 0, none⟩ = some va ∧ w'.cell? ⟨g, 1, none⟩ = some vb) (fun _ => false) (by kernel_rfl) ?_
    generalize w.drew = y0 at *
    refine anyL_take (i := 0) (v := ?vwl0) rfl (by kernel_rfl) (by kernel_rfl) (by kernel_rfl) (by kernel_rfl) (fun _ _ _ h => h) (Or.inl ⟨by rfl, ?hwl0⟩) (unhide HSW _ D0) ?_
    case hwl0 => (intro w hSw; (try dsimp only at hSw); go_simp) <;> with_reducible rfl
    simp only [Act.put, List.getElem_toArray, List.getElem_cons_zero, List.setIfInBounds_toArray, List.set_cons_zero, List.set_cons_succ]
    refine anyL_take (i := 1) (v := ?vwl1) rfl (by kernel_rfl) (by kernel_rfl) (by kernel_rfl) (by kernel_rfl) (fun _ _ _ h => h) (Or.inl ⟨by rfl, ?hwl1⟩) (unhide HSW _ D0) ?_
    case hwl1 => (intro w hSw; (try dsimp only at hSw); go_simp) <;> with_reducible rfl
    simp only [Act.put, List.getElem_toArray, List.getElem_cons_zero, List.getElem_cons_succ, List.setIfInBounds_toArray, List.set_cons_zero, List.set_cons_succ]
    refine anyL_take (i := 2) (v := ?vwl2) rfl (by kernel_rfl) (by kernel_rfl) (by kernel_rfl) (by kernel_rfl) (fun _ _ _ h => h) (Or.inl ⟨by rfl, ?hwl2⟩) (unhide HSW _ D0) ?_
    case hwl2 => (intro w hSw; (try dsimp only at hSw); go_simp) <;> with_reducible rfl
    simp only [Act.put, List.getElem_toArray, List.getElem_cons_zero, List.getElem_cons_succ, List.setIfInBounds_toArray, List.set_cons_zero, List.set_cons_succ]
    refine anyL_take (i := 3) (v := ?vwl3) rfl (by kernel_rfl) (by kernel_rfl) (by kernel_rfl) (by kernel_rfl) (fun _ _ _ h => h) (Or.inl ⟨by rfl, ?hwl3⟩) (unhide HSW _ D0) ?_
    case hwl3 => (intro w hSw; (try dsimp only at hSw); go_simp) <;> with_reducible rfl
    simp only [Act.put, List.getElem_toArray, List.getElem_cons_zero, List.getElem_cons_succ, List.setIfInBounds_toArray, List.set_cons_zero, List.set_cons_succ]
    refine anyL_take (i := 4) (v := ?vwl4) rfl (by kernel_rfl) (by kernel_rfl) (by kernel_rfl) (by kernel_rfl) (fun _ _ _ h => h) (Or.inl ⟨by rfl, ?hwl4⟩) (unhide HSW _ D0) ?_
    case hwl4 => (intro w hSw; (try dsimp only at hSw); go_simp) <;> with_reducible rfl
    simp only [Act.put, List.getElem_toArray, List.getElem_cons_zero, List.getElem_cons_succ, List.setIfInBounds_toArray, List.set_cons_zero, List.set_cons_succ]
    refine anyL_take (i := 5) (v := ?vwl5) rfl (by kernel_rfl) (by kernel_rfl) (by kernel_rfl) (by kernel_rfl) (fun _ _ _ h => h) (Or.inl ⟨by rfl, ?hwl5⟩) (unhide HSW _ D0) ?_
    case hwl5 => (intro w hSw; (try dsimp only at hSw); go_simp) <;> with_reducible rfl
    simp only [Act.put, List.getElem_toArray, List.getElem_cons_zero, List.getElem_cons_succ, List.setIfInBounds_toArray, List.set_cons_zero, List.set_cons_succ]
    refine anyL_take (i := 6) (v := ?vwl6) rfl (by kernel_rfl) (by kernel_rfl) (by kernel_rfl) (by kernel_rfl) (fun _ _ _ h => h) (Or.inl ⟨by rfl, ?hwl6⟩) (unhide HSW _ D0) ?_
    case hwl6 => (intro w hSw; (try dsimp only at hSw); go_simp) <;> with_reducible rfl
    simp only [Act.put, List.getElem_toArray, List.getElem_cons_zero, List.getElem_cons_succ, List.setIfInBounds_toArray, List.set_cons_zero, List.set_cons_succ]
    refine anyL_take (i := 7) (v := ?vwl7) rfl (by kernel_rfl) (by kernel_rfl) (by kernel_rfl) (by kernel_rfl) (fun _ _ _ h => h) (Or.inl ⟨by rfl, ?hwl7⟩) (unhide HSW _ D0) ?_
    case hwl7 => (intro w hSw; (try dsimp only at hSw); go_simp) <;> with_reducible rfl
    simp only [Act.put, List.getElem_toArray, List.getElem_cons_zero, List.getElem_cons_succ, List.setIfInBounds_toArray, List.set_cons_zero, List.set_cons_succ]
    refine anyL_take (i := 8) (v := ?vwl8) rfl (by kernel_rfl) (by kernel_rfl) (by kernel_rfl) (by kernel_rfl) (fun _ _ _ h => h) (Or.inl ⟨by rfl, ?hwl8⟩) (unhide HSW _ D0) ?_
    case hwl8 => (intro w hSw; (try dsimp only at hSw); go_simp) <;> with_reducible rfl
    simp only [Act.put, List.getElem_toArray, List.getElem_cons_zero, List.getElem_cons_succ, List.setIfInBounds_toArray, List.set_cons_zero, List.set_cons_succ]
    refine anyL_ready (rs := [9]) (by kernel_rfl) (by simp) ?_
    refine AllL.cons rfl (fun K hK => ?_) AllL.nil
    go_simp
    refine (unhide HI).mono ?_
    rintro e y1 ⟨v1, rfl, n1, x1⟩
    have D1 := D0.trans (x1.mono D0.size)
    refine unhide hK _ _ (fun _ => unhide HSW _ D1) ?_
    clear hK K x1 D0 HI
    refine anyL_ready (rs := [10]) (by kernel_rfl) (by simp) ?_
    refine AllL.cons rfl (fun K hK => ?_) AllL.nil
    go_simp
    refine (newFork9_at va v1 a (b.setLast p) _ (IsNd.on D1 (unhide HA)) n1 (unhide HN2) (unhide HWW _ D1)).mono ?_
    rintro e y2 ⟨gf, rfl, kf, _, x2⟩
    have D2 := D1.trans (x2.mono D1.size)
    have HR : Hid (IsNd y2 (forkV gf) (.fork a (b.setLast p))) := hide ⟨gf, va, v1, rfl, kf, IsNd.on D2 (unhide HA), IsNd.on x2 n1⟩
    have HD := hide D2
    refine unhide hK _ _ (fun _ => unhide HSW _ D2) ?_
    clear hK K x2 kf D1 n1
    refine anyL_take (i := 11) (v := ?vwl9) rfl (by kernel_rfl) (by kernel_rfl) (by kernel_rfl) (by kernel_rfl) (fun _ _ _ h => h) (Or.inl ⟨by rfl, ?hwl9⟩) (unhide HSW _ D2) ?_
    case hwl9 => (intro w hSw; (try dsimp only at hSw); go_simp) <;> with_reducible rfl
    simp only [Act.put, List.getElem_toArray, List.getElem_cons_zero, List.getElem_cons_succ, List.setIfInBounds_toArray, List.set_cons_zero, List.set_cons_succ]
    refine anyL_take (i := 12) (v := ?vwl10) rfl (by kernel_rfl) (by kernel_rfl) (by kernel_rfl) (by kernel_rfl) (fun _ _ _ h => h) (Or.inl ⟨by rfl, ?hwl10⟩) (unhide HSW _ D2) ?_
    case hwl10 => (intro w hSw; (try dsimp only at hSw); go_simp) <;> with_reducible rfl
    simp only [Act.put, List.getElem_toArray, List.getElem_cons_zero, List.getElem_cons_succ, List.setIfInBounds_toArray, List.set_cons_zero, List.set_cons_succ]
    refine anyL_done (by kernel_rfl) ?_ _
    go_wp2_with fail
    go_ret
    exact ⟨_, rfl, unhide HR, unhide HD⟩
end
section
attribute [local go_sem] Oper.semAt_some taTF taTT taFF taFT
theorem setR_other (X : World) (g g' : Nat) (a b c d e f : Value) (hne : g' ≠ g) : ((((((X.setCell ⟨g, 0, none⟩ a).setCell ⟨g, 1, none⟩ b).setCell ⟨g, 2, none⟩ c).setCell ⟨g, 3, none⟩ d).setCell ⟨g, 4, none⟩ e).setCell ⟨g, 5, none⟩ f).heap[g']? = X.heap[g']? := by
  rw [Below.heap_setCell _ _ _ g' hne, Below.heap_setCell _ _ _ g' hne, Below.heap_setCell _ _ _ g' hne, Below.heap_setCell _ _ _ g' hne, Below.heap_setCell _ _ _ g' hne, Below.heap_setCell _ _ _ g' hne]
theorem before_tip (g n : Nat) (l : List Int) (w : World) (hf : IsLf w g l) (hb : ∀ x ∈ l, 0 ≤ x ∧ x ≤ 255) (h4 : l.length ≤ 4096) (hn : n ≤ l.length) (hW : Wt w) :
    Calls Tryz.prog 89 #[tipV g, .int .i64 (n : Int)] w fun y w' => y = .returned (weV (ofL (l.take n))) ∧ Below w.heap.size w w' := by
  have b0 := (Below.refl w.heap.size w).alloc (Nat.le_refl _) (.cells #[.int .i64 0, .int .i64 0, .int .i64 0, .int .i64 0, .string ⟨#[]⟩, .string ⟨#[]⟩] 47)
  have g0 := push_get w (.cells #[.int .i64 0, .int .i64 0, .int .i64 0, .int .i64 0, .string ⟨#[]⟩, .string ⟨#[]⟩] 47)
  have HV := hide (weq9 (l.take n))
  unfold tipV
  go_enter Tryz.func89, Tryz.ntmps89
  go_upto_region 1 with fail
  have f0' := hf.on b0
  have W0 := hW.below b0
  clear hf hW
  generalize w.alloc (.cells #[.int .i64 0, .int .i64 0, .int .i64 0, .int .i64 0, .string ⟨#[]⟩, .string ⟨#[]⟩] 47) = w0 at *
  have x1 := (Below.refl w0.heap.size w0).alloc (Nat.le_refl _) (.cells #[.pointer (some ⟨g, 0, none⟩)] 179)
  have q1 := push_get w0 (.cells #[.pointer (some ⟨g, 0, none⟩)] 179)
  have c1 : (w0.alloc (.cells #[.pointer (some ⟨g, 0, none⟩)] 179)).cell? ⟨w0.heap.size, 0, none⟩ = some (.pointer (some ⟨g, 0, none⟩)) := by simp only [World.cell?, q1]; rfl
  have hBe := Before_at g n l _ (f0'.on x1) hb h4 hn (W0.below x1)
  rw [weq9] at hBe
  have HBe := hide hBe
  have k1 := bk9_on g0 x1
  have d1 := b0.trans (x1.mono b0.size)
  clear hBe f0' W0 hb h4 hn q1 x1 g0 b0
  generalize (szL (List.take n l)).b = zb at *
  generalize (szL (List.take n l)).r = zr at *
  generalize (szL (List.take n l)).u = zu at *
  generalize (szL (List.take n l)).e = ze at *
  generalize strOfNums (List.take 3 (List.take n l)) = zh at *
  generalize strOfNums (tail3 (List.take n l)) = zt at *
  go_wp2_with fail
  generalize hga : w0.heap.size = gt at *
  clear hga c1
  generalize w0.alloc (.cells #[.pointer (some ⟨g, 0, none⟩)] 179) = w1 at *
  refine (unhide HBe).mono ?_
  rintro y w2 ⟨rfl, x2⟩
  have x3 := (Below.refl w2.heap.size w2).alloc (Nat.le_refl _) (.cells #[.int .i64 zb, .int .i64 zr, .int .i64 zu, .int .i64 ze, .string zh, .string zt] 47)
  have q3 := push_get w2 (.cells #[.int .i64 zb, .int .i64 zr, .int .i64 zu, .int .i64 ze, .string zh, .string zt] 47)
  have x23 := x2.trans (x3.mono x2.size)
  have k3 := bk9_on k1 x23
  have d3 := d1.trans (x23.mono d1.size)
  clear HBe x2 x3 x23 k1 d1
  go_upto_region 11 with fail
  generalize hgb : w2.heap.size = gb at *
  clear hgb
  generalize w2.alloc (.cells #[.int .i64 zb, .int .i64 zr, .int .i64 zu, .int .i64 ze, .string zh, .string zt] 47) = w3 at *
  obtain ⟨s0, s1, s2, s3, s4, s5, _⟩ := cells6 q3
  obtain ⟨p0, p1, p2, p3, p4, p5, pf⟩ := cells6 k3
  have f0 := pf 0
  have f1 := pf 1
  have f2 := pf 2
  have f3 := pf 3
  have f4 := pf 4
  have f5 := pf 5
  clear pf
  have HX := hide (box6_all k3 (.int .i64 zb) (.int .i64 zr) (.int .i64 zu) (.int .i64 ze) (.string zh) (.string zt))
  have HB := hide (below6 d3 (Nat.le_refl _) (.int .i64 zb) (.int .i64 zr) (.int .i64 zu) (.int .i64 ze) (.string zh) (.string zt))
  clear q3 k3 d3
  go_wp2_with fail
  generalize ((((((w3.setCell ⟨w.heap.size, 0, none⟩ (.int .i64 zb)).setCell ⟨w.heap.size, 1, none⟩ (.int .i64 zr)).setCell ⟨w.heap.size, 2, none⟩ (.int .i64 zu)).setCell ⟨w.heap.size, 3, none⟩ (.int .i64 ze)).setCell ⟨w.heap.size, 4, none⟩ (.string zh)).setCell ⟨w.heap.size, 5, none⟩ (.string zt)) = wf at *
  obtain ⟨r0, r1, r2, r3, r4, r5, _⟩ := cells6 (unhide HX)
  refine bodyPost_ret (v := .agg #[.int .i64 zb, .int .i64 zr, .int .i64 zu, .int .i64 ze, .string zh, .string zt]) (by simp [results, Tryz.results89, go_sem, r0, r1, r2, r3, r4, r5]) rfl ⟨by rw [unhide HV], unhide HB⟩
theorem before9_at : ∀ (t : Nd) (v : Value) (w : World) (n : Nat), IsNd w v t → n ≤ t.txt.length → t.txt.length ≤ 268435456 → Wt w →
    Calls Tryz.prog 89 #[v, .int .i64 (n : Int)] w fun y w' => y = .returned (weV (ofL (t.txt.take n))) ∧ Below w.heap.size w w'
  | .tip l, v, w, n, h, hn, _, hW => by
    obtain ⟨g, rfl, hf, _, h4, hb⟩ := h
    exact before_tip g n l w hf hb h4 hn hW
  | .fork a b, v, w, n, h, hn, hm, hW => by
    obtain ⟨gf, va, vb, rfl, hc, ha, hb⟩ := h
    have b0 := (Below.refl w.heap.size w).alloc (Nat.le_refl _) (.cells #[.int .i64 0, .int .i64 0, .int .i64 0, .int .i64 0, .string ⟨#[]⟩, .string ⟨#[]⟩] 47)
    have g0 := push_get w (.cells #[.int .i64 0, .int .i64 0, .int .i64 0, .int .i64 0, .string ⟨#[]⟩, .string ⟨#[]⟩] 47)
    have HNE : Hid (gf ≠ w.heap.size) := hide (by have := (Array.getElem?_eq_some_iff.1 hc).1; omega)
    have hx : (Nd.fork a b).txt = a.txt ++ b.txt := rfl
    rw [hx] at hn hm ⊢
    rw [List.length_append] at hn hm
    clear hx
    have HV := hide (weq9 ((a.txt ++ b.txt).take n))
    have hS := fun (X : World) (h : Below w.heap.size w X) => size9_at va a X (IsNd.on h ha)
    have hcw : w.cell? ⟨gf, 0, none⟩ = some va ∧ w.cell? ⟨gf, 1, none⟩ = some vb := by
      have h9 := hc
      unfold forkC at h9
      obtain ⟨c0, c1, _⟩ := cells9 h9
      exact ⟨c0, c1⟩
    have hgf := (Array.getElem?_eq_some_iff.1 hc).1
    have HCW := hide fun (X : World) (h : Below w.heap.size w X) => And.intro ((h.cell (p := ⟨gf, 0, none⟩) hgf).trans hcw.1) ((h.cell (p := ⟨gf, 1, none⟩) hgf).trans hcw.2)
    by_cases hle : n ≤ a.txt.length
    · have htk : (a.txt ++ b.txt).take n = a.txt.take n := List.take_append_of_le_length hle
      have hI := fun (X : World) (h : Below w.heap.size w X) => before9_at a va X n (IsNd.on h ha) hle (by omega) (hW.below h)
      rw [← htk] at hI
      simp only [weq9] at hI
      have HI := hide hI
      have HS := hide hS
      have t1 : decide ((n : Int) > (a.txt.length : Int)) = false := decide_eq_false (by omega)
      have t2 : decide ((a.txt.length : Int) < (n : Int)) = false := decide_eq_false (by omega)
      have t3 : decide (a.txt.length < n) = false := decide_eq_false (by omega)
      clear hI hS htk hle ha hb hc hcw hgf hW hn hm HNE
      generalize (szL (List.take n (a.txt ++ b.txt))).b = zb at *
      generalize (szL (List.take n (a.txt ++ b.txt))).r = zr at *
      generalize (szL (List.take n (a.txt ++ b.txt))).u = zu at *
      generalize (szL (List.take n (a.txt ++ b.txt))).e = ze at *
      generalize strOfNums (List.take 3 (List.take n (a.txt ++ b.txt))) = zh at *
      generalize strOfNums (tail3 (List.take n (a.txt ++ b.txt))) = zt at *
      unfold forkV
      go_enter Tryz.func89, Tryz.ntmps89
      go_upto_region 1 with fail
      generalize w.alloc (.cells #[.int .i64 0, .int .i64 0, .int .i64 0, .int .i64 0, .string ⟨#[]⟩, .string ⟨#[]⟩] 47) = w0 at *
      obtain ⟨c0, c1⟩ := unhide HCW w0 b0
      go_wp2_with fail
      clear c0 c1
      refine (unhide HS w0 b0).mono ?_
      rintro y w1 ⟨rfl, x1⟩
      have d1 := b0.trans (x1.mono b0.size)
      have k1 := bk9_on g0 x1
      obtain ⟨c0, c1⟩ := unhide HCW w1 d1
      clear x1 b0 g0 HS
      go_wp2_with fail
      clear c0 c1 t1 t2 t3
      refine (unhide HI w1 d1).mono ?_
      rintro y w2 ⟨rfl, x2⟩
      have d2 := d1.trans (x2.mono d1.size)
      have k2 := bk9_on k1 x2
      clear x2 d1 k1 HI
      obtain ⟨p0, p1, p2, p3, p4, p5, pf⟩ := cells6 k2
      have f0 := pf 0
      have f1 := pf 1
      have f2 := pf 2
      have f3 := pf 3
      have f4 := pf 4
      have f5 := pf 5
      clear pf
      have HX := hide (box6_all k2 (.int .i64 zb) (.int .i64 zr) (.int .i64 zu) (.int .i64 ze) (.string zh) (.string zt))
      have HB := hide (below6 d2 (Nat.le_refl _) (.int .i64 zb) (.int .i64 zr) (.int .i64 zu) (.int .i64 ze) (.string zh) (.string zt))
      clear k2 d2
      go_wp2_with fail
      generalize ((((((w2.setCell ⟨w.heap.size, 0, none⟩ (.int .i64 zb)).setCell ⟨w.heap.size, 1, none⟩ (.int .i64 zr)).setCell ⟨w.heap.size, 2, none⟩ (.int .i64 zu)).setCell ⟨w.heap.size, 3, none⟩ (.int .i64 ze)).setCell ⟨w.heap.size, 4, none⟩ (.string zh)).setCell ⟨w.heap.size, 5, none⟩ (.string zt)) = wf at *
      obtain ⟨r0, r1, r2, r3, r4, r5, _⟩ := cells6 (unhide HX)
      refine bodyPost_ret (v := .agg #[.int .i64 zb, .int .i64 zr, .int .i64 zu, .int .i64 ze, .string zh, .string zt]) (by simp [results, Tryz.results89, go_sem, r0, r1, r2, r3, r4, r5]) rfl ⟨by rw [unhide HV], unhide HB⟩
    · have htk : (a.txt ++ b.txt).take n = a.txt ++ b.txt.take (n - a.txt.length) := by rw [List.take_append, List.take_of_length_le (by omega)]
      have hI := fun (X : World) (h : Below w.heap.size w X) => before9_at b vb X (n - a.txt.length) (IsNd.on h hb) (by omega) (by omega) (hW.below h)
      have hBo := fun (X : World) (h : Below w.heap.size w X) => both9_at a.txt (b.txt.take (n - a.txt.length)) X ha.bytes (fun x hx => hb.bytes x (List.mem_of_mem_take hx)) (by rw [List.length_take]; omega) (hW.below h)
      rw [← htk] at hBo
      have hsub : wrap64 ((n : Int) - (a.txt.length : Int)) = ((n - a.txt.length : Nat) : Int) := by unfold wrap64; omega
      have hsub2 : IntKind.i64.wrap ((n : Int) - (a.txt.length : Int)) = ((n - a.txt.length : Nat) : Int) := by rw [IntKind.wrap_i64]; omega
      have HS := hide hS
      have t1 : decide ((n : Int) > (a.txt.length : Int)) = true := decide_eq_true (by omega)
      have t2 : decide ((a.txt.length : Int) < (n : Int)) = true := decide_eq_true (by omega)
      have t3 : decide (a.txt.length < n) = true := decide_eq_true (by omega)
      simp only [weq9] at hI hBo
      have HIb0 := hide hI
      have HBo0 := hide hBo
      have HC0 := hide hc
      clear hI hBo hS htk hb hcw hgf hW hn hm hle hc
      unfold forkV
      go_enter Tryz.func89, Tryz.ntmps89
      go_upto_region 1 with fail
      have HC := hide (bk9_on (unhide HC0) b0)
      have HG := hide g0
      have HD0 := hide b0
      have HA0 := hide (IsNd.on b0 ha)
      clear HC0 g0 ha
      generalize w.alloc (.cells #[.int .i64 0, .int .i64 0, .int .i64 0, .int .i64 0, .string ⟨#[]⟩, .string ⟨#[]⟩] 47) = w0 at *
      obtain ⟨c0, c1⟩ := unhide HCW w0 b0
      go_wp2_with fail
      clear c0 c1
      refine (unhide HS w0 b0).mono ?_
      rintro y w1 ⟨rfl, x1⟩
      obtain ⟨c0, c1⟩ := unhide HCW w1 (b0.trans (x1.mono b0.size))
      have HIb := hide fun (X : World) (h : Below w0.heap.size w0 X) => unhide HIb0 X (b0.trans (h.mono b0.size))
      have HBo := hide fun (X : World) (h : Below w0.heap.size w0 X) => unhide HBo0 X (b0.trans (h.mono b0.size))
      clear HS HIb0 HBo0 HCW
      go_wp2_with fail
      clear c0 c1 t1 t2 t3 b0
      cases a with
      | tip ta =>
        obtain ⟨ga, rfl, fa, _⟩ := unhide HA0
        have HMa := hide fun (X : World) (h : Below w0.heap.size w0 X) => tipM_at _ ga ta X rfl (fa.on h)
        clear fa HA0
        have hx : (Nd.tip ta).txt = ta := rfl
        rw [hx] at HV HBo HIb hsub hsub2 HC ⊢
        rw [weq9] at HMa
        clear hx
        unfold tipV at HC
        unfold tipV
        generalize (szL ta).b = xb at *
        generalize (szL ta).r = xr at *
        generalize (szL ta).u = xu at *
        generalize (szL ta).e = xe at *
        generalize strOfNums (List.take 3 ta) = xh at *
        generalize strOfNums (tail3 ta) = xt at *
        generalize (szL (List.take n (ta ++ b.txt))).b = zb at *
        generalize (szL (List.take n (ta ++ b.txt))).r = zr at *
        generalize (szL (List.take n (ta ++ b.txt))).u = zu at *
        generalize (szL (List.take n (ta ++ b.txt))).e = ze at *
        generalize strOfNums (List.take 3 (List.take n (ta ++ b.txt))) = zh at *
        generalize strOfNums (tail3 (List.take n (ta ++ b.txt))) = zt at *
        generalize (szL (List.take (n - ta.length) b.txt)).b = yb at *
        generalize (szL (List.take (n - ta.length) b.txt)).r = yr at *
        generalize (szL (List.take (n - ta.length) b.txt)).u = yu at *
        generalize (szL (List.take (n - ta.length) b.txt)).e = ye at *
        generalize strOfNums (List.take 3 (List.take (n - ta.length) b.txt)) = yh at *
        generalize strOfNums (tail3 (List.take (n - ta.length) b.txt)) = yt at *
        have HSW : Hid (∀ X : World, Below w0.heap.size w0 X → (fun w' : World => w'.cell? ⟨gf, 0, none⟩ = some (.iface 179 (.agg #[.pointer (some ⟨ga, 0, none⟩)])) ∧ w'.cell? ⟨gf, 1, none⟩ = some vb) X) := hide fun X h => by
          have h9 := bk9_on (unhide HC) h
          unfold forkC at h9
          obtain ⟨c0, c1, _⟩ := cells9 h9
          exact ⟨c0, c1⟩
        have xd : Below w1.heap.size w1 w1.drew := (Below.refl _ _).drew
        have E0 := x1.trans (xd.mono x1.size)
        refine regionL (S := fun w' => w'.cell? ⟨gf, 0, none⟩ = some (.iface 179 (.agg #[.pointer (some ⟨ga, 0, none⟩)])) ∧ w'.cell? ⟨gf, 1, none⟩ = some vb) (fun _ => false) (by kernel_rfl) ?_
        clear xd
        generalize w1.drew = y0 at *
        refine anyL_take (i := 0) (v := ?vbt0) rfl (by kernel_rfl) (by kernel_rfl) (by kernel_rfl) (by kernel_rfl) (fun _ _ _ h => h) (Or.inl ⟨by rfl, ?hbt0⟩) (unhide HSW _ E0) ?_
        case hbt0 => (intro w hSw; (try dsimp only at hSw); go_simp) <;> with_reducible rfl
        simp only [Act.put, List.getElem_toArray, List.getElem_cons_zero, List.setIfInBounds_toArray, List.set_cons_zero, List.set_cons_succ]
        refine anyL_take (i := 1) (v := ?vbt1) rfl (by kernel_rfl) (by kernel_rfl) (by kernel_rfl) (by kernel_rfl) (fun _ _ _ h => h) (Or.inl ⟨by rfl, ?hbt1⟩) (unhide HSW _ E0) ?_
        case hbt1 => (intro w hSw; (try dsimp only at hSw); go_simp) <;> with_reducible rfl
        simp only [Act.put, List.getElem_toArray, List.getElem_cons_zero, List.getElem_cons_succ, List.setIfInBounds_toArray, List.set_cons_zero, List.set_cons_succ]
        refine anyL_take (i := 2) (v := ?vbt2) rfl (by kernel_rfl) (by kernel_rfl) (by kernel_rfl) (by kernel_rfl) (fun _ _ _ h => h) (Or.inl ⟨by rfl, ?hbt2⟩) (unhide HSW _ E0) ?_
        case hbt2 => (intro w hSw; (try dsimp only at hSw); go_simp) <;> with_reducible rfl
        simp only [Act.put, List.getElem_toArray, List.getElem_cons_zero, List.getElem_cons_succ, List.setIfInBounds_toArray, List.set_cons_zero, List.set_cons_succ]
        refine anyL_take (i := 3) (v := ?vbt3) rfl (by kernel_rfl) (by kernel_rfl) (by kernel_rfl) (by kernel_rfl) (fun _ _ _ h => h) (Or.inl ⟨by rfl, ?hbt3⟩) (unhide HSW _ E0) ?_
        case hbt3 => (intro w hSw; (try dsimp only at hSw); go_simp) <;> with_reducible rfl
        simp only [Act.put, List.getElem_toArray, List.getElem_cons_zero, List.getElem_cons_succ, List.setIfInBounds_toArray, List.set_cons_zero, List.set_cons_succ]
        refine anyL_take (i := 5) (v := ?vbt4) rfl (by kernel_rfl) (by kernel_rfl) (by kernel_rfl) (by kernel_rfl) (fun _ _ _ h => h) (Or.inl ⟨by rfl, ?hbt4⟩) (unhide HSW _ E0) ?_
        case hbt4 => (intro w hSw; (try dsimp only at hSw); go_simp) <;> with_reducible rfl
        simp only [Act.put, List.getElem_toArray, List.getElem_cons_zero, List.getElem_cons_succ, List.setIfInBounds_toArray, List.set_cons_zero, List.set_cons_succ]
        refine anyL_take (i := 6) (v := ?vbt5) rfl (by kernel_rfl) (by kernel_rfl) (by kernel_rfl) (by kernel_rfl) (fun _ _ _ h => h) (Or.inl ⟨by rfl, ?hbt5⟩) (unhide HSW _ E0) ?_
        case hbt5 => (intro w hSw; (try dsimp only at hSw); go_simp) <;> with_reducible rfl
        simp only [Act.put, List.getElem_toArray, List.getElem_cons_zero, List.getElem_cons_succ, List.setIfInBounds_toArray, List.set_cons_zero, List.set_cons_succ]
        refine anyL_take (i := 7) (v := ?vbt6) rfl (by kernel_rfl) (by kernel_rfl) (by kernel_rfl) (by kernel_rfl) (fun _ _ _ h => h) (Or.inl ⟨by rfl, ?hbt6⟩) (unhide HSW _ E0) ?_
        case hbt6 => (intro w hSw; (try dsimp only at hSw); go_simp) <;> with_reducible rfl
        simp only [Act.put, List.getElem_toArray, List.getElem_cons_zero, List.getElem_cons_succ, List.setIfInBounds_toArray, List.set_cons_zero, List.set_cons_succ]
        refine anyL_take (i := 8) (v := ?vbt7) rfl (by kernel_rfl) (by kernel_rfl) (by kernel_rfl) (by kernel_rfl) (fun _ _ _ h => h) (Or.inl ⟨by rfl, ?hbt7⟩) (unhide HSW _ E0) ?_
        case hbt7 => (intro w hSw; (try dsimp only at hSw); go_simp) <;> with_reducible rfl
        simp only [Act.put, List.getElem_toArray, List.getElem_cons_zero, List.getElem_cons_succ, List.setIfInBounds_toArray, List.set_cons_zero, List.set_cons_succ]
        refine anyL_take (i := 9) (v := ?vbt8) rfl (by kernel_rfl) (by kernel_rfl) (by kernel_rfl) (by kernel_rfl) (fun _ _ _ h => h) (Or.inl ⟨by rfl, ?hbt8⟩) (unhide HSW _ E0) ?_
        case hbt8 => (intro w hSw; (try dsimp only at hSw); go_simp) <;> with_reducible rfl
        simp only [Act.put, List.getElem_toArray, List.getElem_cons_zero, List.getElem_cons_succ, List.setIfInBounds_toArray, List.set_cons_zero, List.set_cons_succ]
        refine anyL_take (i := 10) (v := ?vbt9) rfl (by kernel_rfl) (by kernel_rfl) (by kernel_rfl) (by kernel_rfl) (fun _ _ _ h => h) (Or.inl ⟨by rfl, ?hbt9⟩) (unhide HSW _ E0) ?_
        case hbt9 => (intro w hSw; (try dsimp only at hSw); go_simp) <;> with_reducible rfl
        simp only [Act.put, List.getElem_toArray, List.getElem_cons_zero, List.getElem_cons_succ, List.setIfInBounds_toArray, List.set_cons_zero, List.set_cons_succ]
        refine anyL_take (i := 11) (v := ?vbt10) rfl (by kernel_rfl) (by kernel_rfl) (by kernel_rfl) (by kernel_rfl) (fun _ _ _ h => h) (Or.inl ⟨by rfl, ?hbt10⟩) (unhide HSW _ E0) ?_
        case hbt10 => (intro w hSw; (try dsimp only at hSw); go_simp) <;> with_reducible rfl
        simp only [Act.put, List.getElem_toArray, List.getElem_cons_zero, List.getElem_cons_succ, List.setIfInBounds_toArray, List.set_cons_zero, List.set_cons_succ]
        refine anyL_ready (rs := [4]) (by kernel_rfl) (by simp) ?_
        refine AllL.cons rfl (fun K hK => ?_) AllL.nil
        go_simp
        go_invoke
        go_simp
        refine (unhide HMa _ E0).mono ?_
        rintro e y1 ⟨rfl, q1⟩
        have E1 := E0.trans (q1.mono E0.size)
        refine unhide hK _ _ (fun _ => unhide HSW _ E1) ?_
        clear hK K q1 E0
        refine anyL_ready (rs := [12]) (by kernel_rfl) (by simp) ?_
        refine AllL.cons rfl (fun K hK => ?_) AllL.nil
        go_simp
        refine (unhide HIb _ E1).mono ?_
        rintro e y2 ⟨rfl, q2⟩
        have E2 := E1.trans (q2.mono E1.size)
        refine unhide hK _ _ (fun _ => unhide HSW _ E2) ?_
        clear hK K q2 E1
        refine anyL_ready (rs := [13]) (by kernel_rfl) (by simp) ?_
        refine AllL.cons rfl (fun K hK => ?_) AllL.nil
        go_simp
        refine (unhide HBo _ E2).mono ?_
        rintro e y3 ⟨rfl, q3⟩
        have E3 := E2.trans (q3.mono E2.size)
        refine unhide hK _ _ (fun _ => unhide HSW _ E3) ?_
        clear hK K q3 E2
        have k3 := bk9_on (unhide HG) E3
        have d3 := (unhide HD0).trans (E3.mono (unhide HD0).size)
        obtain ⟨p0, p1, p2, p3, p4, p5, pf⟩ := cells6 k3
        have f0 := pf 0
        have f1 := pf 1
        have f2 := pf 2
        have f3 := pf 3
        have f4 := pf 4
        have f5 := pf 5
        clear pf
        have HX := hide (box6_all k3 (.int .i64 zb) (.int .i64 zr) (.int .i64 zu) (.int .i64 ze) (.string zh) (.string zt))
        have HB := hide (below6 d3 (Nat.le_refl _) (.int .i64 zb) (.int .i64 zr) (.int .i64 zu) (.int .i64 ze) (.string zh) (.string zt))
        have HSF : Hid ((fun w' : World => w'.cell? ⟨gf, 0, none⟩ = some (.iface 179 (.agg #[.pointer (some ⟨ga, 0, none⟩)])) ∧ w'.cell? ⟨gf, 1, none⟩ = some vb) ((((((y3.setCell ⟨w.heap.size, 0, none⟩ (.int .i64 zb)).setCell ⟨w.heap.size, 1, none⟩ (.int .i64 zr)).setCell ⟨w.heap.size, 2, none⟩ (.int .i64 zu)).setCell ⟨w.heap.size, 3, none⟩ (.int .i64 ze)).setCell ⟨w.heap.size, 4, none⟩ (.string zh)).setCell ⟨w.heap.size, 5, none⟩ (.string zt))) := hide (by
          have h9 := bk9_on (unhide HC) E3
          have h10 := (setR_other y3 w.heap.size gf (.int .i64 zb) (.int .i64 zr) (.int .i64 zu) (.int .i64 ze) (.string zh) (.string zt) (unhide HNE)).trans h9
          unfold forkC at h10
          obtain ⟨c0, c1, _⟩ := cells9 h10
          exact ⟨c0, c1⟩)
        clear k3 d3
        refine anyL_ready (rs := [14]) (by kernel_rfl) (by simp) ?_
        refine AllL.cons rfl (fun K hK => ?_) AllL.nil
        go_simp
        refine unhide hK _ _ (fun _ => unhide HSF) ?_
        refine anyL_done (by kernel_rfl) ?_ _
        clear p0 p1 p2 p3 p4 p5 f0 f1 f2 f3 f4 f5
        go_wp2_with fail
        generalize ((((((y3.setCell ⟨w.heap.size, 0, none⟩ (.int .i64 zb)).setCell ⟨w.heap.size, 1, none⟩ (.int .i64 zr)).setCell ⟨w.heap.size, 2, none⟩ (.int .i64 zu)).setCell ⟨w.heap.size, 3, none⟩ (.int .i64 ze)).setCell ⟨w.heap.size, 4, none⟩ (.string zh)).setCell ⟨w.heap.size, 5, none⟩ (.string zt)) = wf at *
        obtain ⟨r0, r1, r2, r3, r4, r5, _⟩ := cells6 (unhide HX)
        refine bodyPost_ret (v := .agg #[.int .i64 zb, .int .i64 zr, .int .i64 zu, .int .i64 ze, .string zh, .string zt]) (by simp [results, Tryz.results89, go_sem, r0, r1, r2, r3, r4, r5]) rfl ⟨by show _ = Ending.returned (weV (ofL (List.take n (ta ++ b.txt)))); rw [unhide HV], unhide HB⟩
      | fork a1 a2 =>
        obtain ⟨ga, la, ra, rfl, fa, _⟩ := unhide HA0
        have HMa := hide fun (X : World) (h : Below w0.heap.size w0 X) => forkM_at ga la ra _ _ X (bk9_on fa h)
        clear fa HA0
        have hx : (Nd.fork a1 a2).txt = a1.txt ++ a2.txt := rfl
        rw [hx] at HV HBo HIb hsub hsub2 HC ⊢
        rw [weq9] at HMa
        clear hx
        unfold forkV at HC
        unfold forkV
        generalize hta : a1.txt ++ a2.txt = ta at *
        have HTA := hide hta
        clear hta
        generalize (szL ta).b = xb at *
        generalize (szL ta).r = xr at *
        generalize (szL ta).u = xu at *
        generalize (szL ta).e = xe at *
        generalize strOfNums (List.take 3 ta) = xh at *
        generalize strOfNums (tail3 ta) = xt at *
        generalize (szL (List.take n (ta ++ b.txt))).b = zb at *
        generalize (szL (List.take n (ta ++ b.txt))).r = zr at *
        generalize (szL (List.take n (ta ++ b.txt))).u = zu at *
        generalize (szL (List.take n (ta ++ b.txt))).e = ze at *
        generalize strOfNums (List.take 3 (List.take n (ta ++ b.txt))) = zh at *
        generalize strOfNums (tail3 (List.take n (ta ++ b.txt))) = zt at *
        generalize (szL (List.take (n - ta.length) b.txt)).b = yb at *
        generalize (szL (List.take (n - ta.length) b.txt)).r = yr at *
        generalize (szL (List.take (n - ta.length) b.txt)).u = yu at *
        generalize (szL (List.take (n - ta.length) b.txt)).e = ye at *
        generalize strOfNums (List.take 3 (List.take (n - ta.length) b.txt)) = yh at *
        generalize strOfNums (tail3 (List.take (n - ta.length) b.txt)) = yt at *
        have HSW : Hid (∀ X : World, Below w0.heap.size w0 X → (fun w' : World => w'.cell? ⟨gf, 0, none⟩ = some (.iface 175 (.pointer (some ⟨ga, 0, none⟩))) ∧ w'.cell? ⟨gf, 1, none⟩ = some vb) X) := hide fun X h => by
          have h9 := bk9_on (unhide HC) h
          unfold forkC at h9
          obtain ⟨c0, c1, _⟩ := cells9 h9
          exact ⟨c0, c1⟩
        have xd : Below w1.heap.size w1 w1.drew := (Below.refl _ _).drew
        have E0 := x1.trans (xd.mono x1.size)
        refine regionL (S := fun w' => w'.cell? ⟨gf, 0, none⟩ = some (.iface 175 (.pointer (some ⟨ga, 0, none⟩))) ∧ w'.cell? ⟨gf, 1, none⟩ = some vb) (fun _ => false) (by kernel_rfl) ?_
        clear xd
        generalize w1.drew = y0 at *
        refine anyL_take (i := 0) (v := ?vbf11) rfl (by kernel_rfl) (by kernel_rfl) (by kernel_rfl) (by kernel_rfl) (fun _ _ _ h => h) (Or.inl ⟨by rfl, ?hbf11⟩) (unhide HSW _ E0) ?_
        case hbf11 => (intro w hSw; (try dsimp only at hSw); go_simp) <;> with_reducible rfl
        simp only [Act.put, List.getElem_toArray, List.getElem_cons_zero, List.setIfInBounds_toArray, List.set_cons_zero, List.set_cons_succ]
        refine anyL_take (i := 1) (v := ?vbf12) rfl (by kernel_rfl) (by kernel_rfl) (by kernel_rfl) (by kernel_rfl) (fun _ _ _ h => h) (Or.inl ⟨by rfl, ?hbf12⟩) (unhide HSW _ E0) ?_
        case hbf12 => (intro w hSw; (try dsimp only at hSw); go_simp) <;> with_reducible rfl
        simp only [Act.put, List.getElem_toArray, List.getElem_cons_zero, List.getElem_cons_succ, List.setIfInBounds_toArray, List.set_cons_zero, List.set_cons_succ]
        refine anyL_take (i := 2) (v := ?vbf13) rfl (by kernel_rfl) (by kernel_rfl) (by kernel_rfl) (by kernel_rfl) (fun _ _ _ h => h) (Or.inl ⟨by rfl, ?hbf13⟩) (unhide HSW _ E0) ?_
        case hbf13 => (intro w hSw; (try dsimp only at hSw); go_simp) <;> with_reducible rfl
        simp only [Act.put, List.getElem_toArray, List.getElem_cons_zero, List.getElem_cons_succ, List.setIfInBounds_toArray, List.set_cons_zero, List.set_cons_succ]
        refine anyL_take (i := 3) (v := ?vbf14) rfl (by kernel_rfl) (by kernel_rfl) (by kernel_rfl) (by kernel_rfl) (fun _ _ _ h => h) (Or.inl ⟨by rfl, ?hbf14⟩) (unhide HSW _ E0) ?_
        case hbf14 => (intro w hSw; (try dsimp only at hSw); go_simp) <;> with_reducible rfl
        simp only [Act.put, List.getElem_toArray, List.getElem_cons_zero, List.getElem_cons_succ, List.setIfInBounds_toArray, List.set_cons_zero, List.set_cons_succ]
        refine anyL_take (i := 5) (v := ?vbf15) rfl (by kernel_rfl) (by kernel_rfl) (by kernel_rfl) (by kernel_rfl) (fun _ _ _ h => h) (Or.inl ⟨by rfl, ?hbf15⟩) (unhide HSW _ E0) ?_
        case hbf15 => (intro w hSw; (try dsimp only at hSw); go_simp) <;> with_reducible rfl
        simp only [Act.put, List.getElem_toArray, List.getElem_cons_zero, List.getElem_cons_succ, List.setIfInBounds_toArray, List.set_cons_zero, List.set_cons_succ]
        refine anyL_take (i := 6) (v := ?vbf16) rfl (by kernel_rfl) (by kernel_rfl) (by kernel_rfl) (by kernel_rfl) (fun _ _ _ h => h) (Or.inl ⟨by rfl, ?hbf16⟩) (unhide HSW _ E0) ?_
        case hbf16 => (intro w hSw; (try dsimp only at hSw); go_simp) <;> with_reducible rfl
        simp only [Act.put, List.getElem_toArray, List.getElem_cons_zero, List.getElem_cons_succ, List.setIfInBounds_toArray, List.set_cons_zero, List.set_cons_succ]
        refine anyL_take (i := 7) (v := ?vbf17) rfl (by kernel_rfl) (by kernel_rfl) (by kernel_rfl) (by kernel_rfl) (fun _ _ _ h => h) (Or.inl ⟨by rfl, ?hbf17⟩) (unhide HSW _ E0) ?_
        case hbf17 => (intro w hSw; (try dsimp only at hSw); go_simp) <;> with_reducible rfl
        simp only [Act.put, List.getElem_toArray, List.getElem_cons_zero, List.getElem_cons_succ, List.setIfInBounds_toArray, List.set_cons_zero, List.set_cons_succ]
        refine anyL_take (i := 8) (v := ?vbf18) rfl (by kernel_rfl) (by kernel_rfl) (by kernel_rfl) (by kernel_rfl) (fun _ _ _ h => h) (Or.inl ⟨by rfl, ?hbf18⟩) (unhide HSW _ E0) ?_
        case hbf18 => (intro w hSw; (try dsimp only at hSw); go_simp) <;> with_reducible rfl
        simp only [Act.put, List.getElem_toArray, List.getElem_cons_zero, List.getElem_cons_succ, List.setIfInBounds_toArray, List.set_cons_zero, List.set_cons_succ]
        refine anyL_take (i := 9) (v := ?vbf19) rfl (by kernel_rfl) (by kernel_rfl) (by kernel_rfl) (by kernel_rfl) (fun _ _ _ h => h) (Or.inl ⟨by rfl, ?hbf19⟩) (unhide HSW _ E0) ?_
        case hbf19 => (intro w hSw; (try dsimp only at hSw); go_simp) <;> with_reducible rfl
        simp only [Act.put, List.getElem_toArray, List.getElem_cons_zero, List.getElem_cons_succ, List.setIfInBounds_toArray, List.set_cons_zero, List.set_cons_succ]
        refine anyL_take (i := 10) (v := ?vbf20) rfl (by kernel_rfl) (by kernel_rfl) (by kernel_rfl) (by kernel_rfl) (fun _ _ _ h => h) (Or.inl ⟨by rfl, ?hbf20⟩) (unhide HSW _ E0) ?_
        case hbf20 => (intro w hSw; (try dsimp only at hSw); go_simp) <;> with_reducible rfl
        simp only [Act.put, List.getElem_toArray, List.getElem_cons_zero, List.getElem_cons_succ, List.setIfInBounds_toArray, List.set_cons_zero, List.set_cons_succ]
        refine anyL_take (i := 11) (v := ?vbf21) rfl (by kernel_rfl) (by kernel_rfl) (by kernel_rfl) (by kernel_rfl) (fun _ _ _ h => h) (Or.inl ⟨by rfl, ?hbf21⟩) (unhide HSW _ E0) ?_
        case hbf21 => (intro w hSw; (try dsimp only at hSw); go_simp) <;> with_reducible rfl
        simp only [Act.put, List.getElem_toArray, List.getElem_cons_zero, List.getElem_cons_succ, List.setIfInBounds_toArray, List.set_cons_zero, List.set_cons_succ]
        refine anyL_ready (rs := [4]) (by kernel_rfl) (by simp) ?_
        refine AllL.cons rfl (fun K hK => ?_) AllL.nil
        go_simp
        go_invoke
        go_simp
        refine (unhide HMa _ E0).mono ?_
        rintro e y1 ⟨rfl, q1⟩
        have E1 := E0.trans (q1.mono E0.size)
        refine unhide hK _ _ (fun _ => unhide HSW _ E1) ?_
        clear hK K q1 E0
        refine anyL_ready (rs := [12]) (by kernel_rfl) (by simp) ?_
        refine AllL.cons rfl (fun K hK => ?_) AllL.nil
        go_simp
        refine (unhide HIb _ E1).mono ?_
        rintro e y2 ⟨rfl, q2⟩
        have E2 := E1.trans (q2.mono E1.size)
        refine unhide hK _ _ (fun _ => unhide HSW _ E2) ?_
        clear hK K q2 E1
        refine anyL_ready (rs := [13]) (by kernel_rfl) (by simp) ?_
        refine AllL.cons rfl (fun K hK => ?_) AllL.nil
        go_simp
        refine (unhide HBo _ E2).mono ?_
        rintro e y3 ⟨rfl, q3⟩
        have E3 := E2.trans (q3.mono E2.size)
        refine unhide hK _ _ (fun _ => unhide HSW _ E3) ?_
        clear hK K q3 E2
        have k3 := bk9_on (unhide HG) E3
        have d3 := (unhide HD0).trans (E3.mono (unhide HD0).size)
        obtain ⟨p0, p1, p2, p3, p4, p5, pf⟩ := cells6 k3
        have f0 := pf 0
        have f1 := pf 1
        have f2 := pf 2
        have f3 := pf 3
        have f4 := pf 4
        have f5 := pf 5
        clear pf
        have HX := hide (box6_all k3 (.int .i64 zb) (.int .i64 zr) (.int .i64 zu) (.int .i64 ze) (.string zh) (.string zt))
        have HB := hide (below6 d3 (Nat.le_refl _) (.int .i64 zb) (.int .i64 zr) (.int .i64 zu) (.int .i64 ze) (.string zh) (.string zt))
        have HSF : Hid ((fun w' : World => w'.cell? ⟨gf, 0, none⟩ = some (.iface 175 (.pointer (some ⟨ga, 0, none⟩))) ∧ w'.cell? ⟨gf, 1, none⟩ = some vb) ((((((y3.setCell ⟨w.heap.size, 0, none⟩ (.int .i64 zb)).setCell ⟨w.heap.size, 1, none⟩ (.int .i64 zr)).setCell ⟨w.heap.size, 2, none⟩ (.int .i64 zu)).setCell ⟨w.heap.size, 3, none⟩ (.int .i64 ze)).setCell ⟨w.heap.size, 4, none⟩ (.string zh)).setCell ⟨w.heap.size, 5, none⟩ (.string zt))) := hide (by
          have h9 := bk9_on (unhide HC) E3
          have h10 := (setR_other y3 w.heap.size gf (.int .i64 zb) (.int .i64 zr) (.int .i64 zu) (.int .i64 ze) (.string zh) (.string zt) (unhide HNE)).trans h9
          unfold forkC at h10
          obtain ⟨c0, c1, _⟩ := cells9 h10
          exact ⟨c0, c1⟩)
        clear k3 d3
        refine anyL_ready (rs := [14]) (by kernel_rfl) (by simp) ?_
        refine AllL.cons rfl (fun K hK => ?_) AllL.nil
        go_simp
        refine unhide hK _ _ (fun _ => unhide HSF) ?_
        refine anyL_done (by kernel_rfl) ?_ _
        clear p0 p1 p2 p3 p4 p5 f0 f1 f2 f3 f4 f5
        go_wp2_with fail
        generalize ((((((y3.setCell ⟨w.heap.size, 0, none⟩ (.int .i64 zb)).setCell ⟨w.heap.size, 1, none⟩ (.int .i64 zr)).setCell ⟨w.heap.size, 2, none⟩ (.int .i64 zu)).setCell ⟨w.heap.size, 3, none⟩ (.int .i64 ze)).setCell ⟨w.heap.size, 4, none⟩ (.string zh)).setCell ⟨w.heap.size, 5, none⟩ (.string zt)) = wf at *
        obtain ⟨r0, r1, r2, r3, r4, r5, _⟩ := cells6 (unhide HX)
        refine bodyPost_ret (v := .agg #[.int .i64 zb, .int .i64 zr, .int .i64 zu, .int .i64 ze, .string zh, .string zt]) (by simp [results, Tryz.results89, go_sem, r0, r1, r2, r3, r4, r5]) rfl ⟨by show _ = Ending.returned (weV (ofL (List.take n (a1.txt ++ a2.txt ++ b.txt)))); rw [unhide HTA, unhide HV], unhide HB⟩
end
section
attribute [local go_sem] Oper.semAt_some taTF taTT taFF taFT
theorem halvesF9_at (a b : Nd) (v : Value) (w : World) (h : IsNd w v (.fork a b)) :
    Calls Tryz.prog 119 #[v] w fun y w' => ∃ va vb, y = .returned (.tuple #[va, vb]) ∧ IsNd w' va a ∧ IsNd w' vb b ∧ Below w.heap.size w w' := by
  obtain ⟨g, va, vb, rfl, hc, ha, hb⟩ := h
  have x0 : Below w.heap.size w w.drew := (Below.refl _ _).drew
  have HA := hide (IsNd.on x0 ha)
  have HB := hide (IsNd.on x0 hb)
  have HX := hide x0
  have h9 := bk9_on hc x0
  unfold forkC at h9
  obtain ⟨c0, c1, _⟩ := cells9 h9
  have HS0 : Hid ((fun w' => w'.cell? ⟨g, 0, none⟩ = some va ∧ w'.cell? ⟨g, 1, none⟩ = some vb) w.drew) := hide ⟨c0, c1⟩
  dsimp only at HS0
  clear hc ha hb x0 h9 c0 c1
  unfold forkV
  go_enter Tryz.func119, Tryz.ntmps119
  go_upto_region 4 with fail
  refine regionL (S := fun w' => w'.cell? ⟨g, 0, none⟩ = some va ∧ w'.cell? ⟨g, 1, none⟩ = some vb) (fun _ => false) (by kernel_rfl) ?_
  generalize w.drew = y0 at *
  refine anyL_take (i := 0) (v := ?vq0) rfl (by kernel_rfl) (by kernel_rfl) (by kernel_rfl) (by kernel_rfl) (fun _ _ _ h => h) (Or.inl ⟨by rfl, ?hq0⟩) (unhide HS0) ?_
  case hq0 => (intro w hSw; (try dsimp only at hSw); go_simp) <;> with_reducible rfl
  simp only [Act.put, List.getElem_toArray, List.getElem_cons_zero, List.setIfInBounds_toArray, List.set_cons_zero, List.set_cons_succ]
  refine anyL_take (i := 1) (v := ?vq1) rfl (by kernel_rfl) (by kernel_rfl) (by kernel_rfl) (by kernel_rfl) (fun _ _ _ h => h) (Or.inl ⟨by rfl, ?hq1⟩) (unhide HS0) ?_
  case hq1 => (intro w hSw; (try dsimp only at hSw); go_simp) <;> with_reducible rfl
  simp only [Act.put, List.getElem_toArray, List.getElem_cons_zero, List.getElem_cons_succ, List.setIfInBounds_toArray, List.set_cons_zero, List.set_cons_succ]
  refine anyL_take (i := 2) (v := ?vq2) rfl (by kernel_rfl) (by kernel_rfl) (by kernel_rfl) (by kernel_rfl) (fun _ _ _ h => h) (Or.inl ⟨by rfl, ?hq2⟩) (unhide HS0) ?_
  case hq2 => (intro w hSw; (try dsimp only at hSw); go_simp) <;> with_reducible rfl
  simp only [Act.put, List.getElem_toArray, List.getElem_cons_zero, List.getElem_cons_succ, List.setIfInBounds_toArray, List.set_cons_zero, List.set_cons_succ]
  refine anyL_take (i := 3) (v := ?vq3) rfl (by kernel_rfl) (by kernel_rfl) (by kernel_rfl) (by kernel_rfl) (fun _ _ _ h => h) (Or.inl ⟨by rfl, ?hq3⟩) (unhide HS0) ?_
  case hq3 => (intro w hSw; (try dsimp only at hSw); go_simp) <;> with_reducible rfl
  simp only [Act.put, List.getElem_toArray, List.getElem_cons_zero, List.getElem_cons_succ, List.setIfInBounds_toArray, List.set_cons_zero, List.set_cons_succ]
  refine anyL_take (i := 4) (v := ?vq4) rfl (by kernel_rfl) (by kernel_rfl) (by kernel_rfl) (by kernel_rfl) (fun _ _ _ h => h) (Or.inl ⟨by rfl, ?hq4⟩) (unhide HS0) ?_
  case hq4 => (intro w hSw; (try dsimp only at hSw); go_simp) <;> with_reducible rfl
  simp only [Act.put, List.getElem_toArray, List.getElem_cons_zero, List.getElem_cons_succ, List.setIfInBounds_toArray, List.set_cons_zero, List.set_cons_succ]
  refine anyL_take (i := 5) (v := ?vq5) rfl (by kernel_rfl) (by kernel_rfl) (by kernel_rfl) (by kernel_rfl) (fun _ _ _ h => h) (Or.inl ⟨by rfl, ?hq5⟩) (unhide HS0) ?_
  case hq5 => (intro w hSw; (try dsimp only at hSw); go_simp) <;> with_reducible rfl
  simp only [Act.put, List.getElem_toArray, List.getElem_cons_zero, List.getElem_cons_succ, List.setIfInBounds_toArray, List.set_cons_zero, List.set_cons_succ]
  refine anyL_take (i := 6) (v := ?vq6) rfl (by kernel_rfl) (by kernel_rfl) (by kernel_rfl) (by kernel_rfl) (fun _ _ _ h => h) (Or.inl ⟨by rfl, ?hq6⟩) (unhide HS0) ?_
  case hq6 => (intro w hSw; (try dsimp only at hSw); go_simp) <;> with_reducible rfl
  simp only [Act.put, List.getElem_toArray, List.getElem_cons_zero, List.getElem_cons_succ, List.setIfInBounds_toArray, List.set_cons_zero, List.set_cons_succ]
  refine anyL_take (i := 7) (v := ?vq7) rfl (by kernel_rfl) (by kernel_rfl) (by kernel_rfl) (by kernel_rfl) (fun _ _ _ h => h) (Or.inl ⟨by rfl, ?hq7⟩) (unhide HS0) ?_
  case hq7 => (intro w hSw; (try dsimp only at hSw); go_simp) <;> with_reducible rfl
  simp only [Act.put, List.getElem_toArray, List.getElem_cons_zero, List.getElem_cons_succ, List.setIfInBounds_toArray, List.set_cons_zero, List.set_cons_succ]
  refine anyL_take (i := 8) (v := ?vq8) rfl (by kernel_rfl) (by kernel_rfl) (by kernel_rfl) (by kernel_rfl) (fun _ _ _ h => h) (Or.inl ⟨by rfl, ?hq8⟩) (unhide HS0) ?_
  case hq8 => (intro w hSw; (try dsimp only at hSw); go_simp) <;> with_reducible rfl
  simp only [Act.put, List.getElem_toArray, List.getElem_cons_zero, List.getElem_cons_succ, List.setIfInBounds_toArray, List.set_cons_zero, List.set_cons_succ]
  refine anyL_take (i := 9) (v := ?vq9) rfl (by kernel_rfl) (by kernel_rfl) (by kernel_rfl) (by kernel_rfl) (fun _ _ _ h => h) (Or.inl ⟨by rfl, ?hq9⟩) (unhide HS0) ?_
  case hq9 => (intro w hSw; (try dsimp only at hSw); go_simp) <;> with_reducible rfl
  simp only [Act.put, List.getElem_toArray, List.getElem_cons_zero, List.getElem_cons_succ, List.setIfInBounds_toArray, List.set_cons_zero, List.set_cons_succ]
  refine anyL_done (by kernel_rfl) ?_ _
  go_wp2_with fail
  refine bodyPost_ret (v := .tuple #[va, vb]) (by simp [results, Tryz.results119, go_sem]) rfl ⟨va, vb, rfl, unhide HA, unhide HB, unhide HX⟩
end
section
attribute [local go_sem] Oper.semAt_some
theorem wpList_high {ops : Array Oper} {rest : List Oper} {o : Oper} {a : Act} {Q : Exit → Act → World → Prop} {w : World} (hw : Region.wanted o (yielded ops a.tmps) = true) (x : Operand)
    (ho : o.op = .call { callee := .invoke x "galley/rope.height", args := #[], argTypes := #[] }) (v : Value) (t : Nd) (hx : a.eval x = v) (hN : IsNd w v t)
    (h : ∀ w', Below w.heap.size w w' → wpList Tryz.prog ops Q rest (a.put o.dst (.int .i64 (t.high : Int))) w') : wpList Tryz.prog ops Q (o :: rest) a w := by
  cases t with
  | tip l =>
    obtain ⟨g, rfl, hf, _⟩ := hN
    unfold wpList
    rw [if_pos hw]
    left
    unfold Oper.wp
    unfold execOp
    simp only [ho, resolve, invoke, hx, tipV]
    go_simp
    go_invoke
    go_simp
    refine (tipH_at _ g w rfl).mono ?_
    rintro y w1 ⟨rfl, x1⟩
    exact h w1 x1
  | fork p q =>
    obtain ⟨g, va, vb, rfl, hc, _, _⟩ := hN
    unfold wpList
    rw [if_pos hw]
    left
    unfold Oper.wp
    unfold execOp
    simp only [ho, resolve, invoke, hx, forkV]
    go_simp
    go_invoke
    go_simp
    refine (forkH_at g va vb _ _ w hc).mono ?_
    rintro y w1 ⟨rfl, x1⟩
    subst x1
    exact h w1 (Below.refl _ _)
theorem newForkN_at (va vb : Value) (a b : Nd) (w : World) (ha : IsNd w va a) (hb : IsNd w vb b) (hn : a.txt.length + b.txt.length ≤ 268435456) (hW : Wt w) :
    Calls Tryz.prog 118 #[va, vb] w fun y w' => ∃ g, y = .returned (.pointer (some ⟨g, 0, none⟩)) ∧ IsNd w' (forkV g) (.fork a b) ∧ Below w.heap.size w w' := by
  refine (newFork9_at va vb a b w ha hb hn hW).mono ?_
  rintro y w' ⟨g, rfl, hc, _, hx⟩
  exact ⟨g, rfl, ⟨g, va, vb, rfl, hc, IsNd.on hx ha, IsNd.on hx hb⟩, hx⟩
theorem balanced9_at (l r : Nd) (vl vr : Value) (w : World) (hl : IsNd w vl l) (hr : IsNd w vr r) (hn : l.txt.length + r.txt.length ≤ 268435456) (hW : Wt w) :
    Calls Tryz.prog 120 #[vl, vr] w fun y w' => ∃ v, y = .returned v ∧ IsNd w' v (balN l r) ∧ Below w.heap.size w w' := by
  have q1 := high_txt hl
  have q2 := high_txt hr
  have p1 := high_one l
  have p2 := high_one r
  have hwr : IntKind.i64.wrap ((l.high : Int) - (r.high : Int)) = (l.high : Int) - (r.high : Int) := by rw [IntKind.wrap_i64]; omega
  have HL := hide hl
  have HR := hide hr
  have HW := hide hW
  have HN := hide hn
  clear hl hr hW hn q1 q2
  go_enter Tryz.func120, Tryz.ntmps120
  go_wp2_with (refine wpList_high rfl (.tmp 14) rfl vl l rfl (unhide HL) ?_)
  intro w1 x1
  have HR1 := hide (IsNd.on x1 (unhide HR))
  go_wp2_with (refine wpList_high rfl (.tmp 16) rfl vr r rfl (unhide HR1) ?_)
  intro w2 x2
  have x12 := x1.trans (x2.mono x1.size)
  have HL2 := hide (IsNd.on x12 (unhide HL))
  have HR2 := hide (IsNd.on x12 (unhide HR))
  have HX2 := hide x12
  have HW2 := hide ((unhide HW).below x12)
  clear HR1 x1 x2 x12 HL HR HW
  by_cases c1 : r.high + 1 < l.high
  · have t1 : (1 : Int) < (l.high : Int) - (r.high : Int) := by omega
    cases l with
    | tip x =>
      exfalso
      have : (Nd.tip x).high = 1 := rfl
      omega
    | fork o i =>
      have HC := hide (And.intro c1 trivial)
      clear c1
      go_wp2_with fail
      refine (halvesF9_at o i vl w2 (unhide HL2)).mono ?_
      rintro y w3 ⟨vo, vi, rfl, ho3, hi3, x3⟩
      dsimp only
      have HO3 := hide (IsNd.on x3 (unhide HR2))
      have hi3 := hide hi3
      have ho3 := hide ho3
      have hho := high_one o
      have hqi := high_txt (unhide hi3)
      have hqo := high_txt (unhide ho3)
      go_wp2_with (refine wpList_high rfl (.tmp 27) rfl vi i rfl (unhide hi3) ?_)
      intro w4 x4
      have ho4 := hide (IsNd.on x4 (unhide ho3))
      go_wp2_with (refine wpList_high rfl (.tmp 29) rfl vo o rfl (unhide ho4) ?_)
      intro w5 x5
      have x35 := x3.trans ((x4.trans (x5.mono x4.size)).mono x3.size)
      have x45 := x4.trans (x5.mono x4.size)
      have hi5 := hide (IsNd.on x45 (unhide hi3))
      have ho5 := hide (IsNd.on x45 (unhide ho3))
      have HO5 := hide (IsNd.on x45 (unhide HO3))
      have X5 := hide x35
      clear x3 x4 x5 x35 x45 hi3 ho3 ho4 HO3 hqi hqo
      by_cases c3 : i.high ≤ o.high
      · have t3 : (i.high : Int) ≤ (o.high : Int) := by omega
        have HB : Hid (balN (.fork o i) r = .fork o (.fork i r)) := hide (by unfold balN; obtain ⟨c1, c2⟩ := unhide HC; rw [if_pos c1]; dsimp only; rw [if_pos c3])
        go_wp2_with fail
        refine (newForkN_at vi vr i r w5 (unhide hi5) (unhide HO5) (by have := unhide HN; simp only [fork_txt, List.length_append] at this ⊢; omega) ((unhide HW2).below (unhide X5))).mono ?_
        rintro y z1 ⟨g1, rfl, n1, y1⟩
        dsimp only
        go_wp2_with fail
        refine (newForkN_at vo (forkV g1) o (.fork i r) z1 (IsNd.on y1 (unhide ho5)) n1 (by have := unhide HN; simp only [fork_txt, List.length_append] at this ⊢; omega) ((unhide HW2).below ((unhide X5).trans (y1.mono (unhide X5).size)))).mono ?_
        rintro y z2 ⟨g2, rfl, n2, y2⟩
        dsimp only
        go_wp2_with fail
        go_ret
        exact ⟨_, rfl, by rw [unhide HB]; exact n2, (unhide HX2).trans (((unhide X5).trans ((y1.trans (y2.mono y1.size)).mono (unhide X5).size)).mono (unhide HX2).size)⟩
      · have t3 : ¬ ((i.high : Int) ≤ (o.high : Int)) := by omega
        cases i with
        | tip x =>
          exfalso
          have : (Nd.tip x).high = 1 := rfl
          omega
        | fork a b =>
          have HB : Hid (balN (.fork o (.fork a b)) r = .fork (.fork o a) (.fork b r)) := hide (by unfold balN; obtain ⟨c1, c2⟩ := unhide HC; rw [if_pos c1]; dsimp only; rw [if_neg c3])
          clear c3
          go_wp2_with fail
          refine (halvesF9_at a b vi w5 (unhide hi5)).mono ?_
          rintro y w6 ⟨va, vb, rfl, ha6, hb6, x6⟩
          dsimp only
          have X6 := hide ((unhide X5).trans (x6.mono (unhide X5).size))
          have ha6 := hide ha6
          have hb6 := hide hb6
          have ho6 := hide (IsNd.on x6 (unhide ho5))
          have HO6 := hide (IsNd.on x6 (unhide HO5))
          clear x6 ho5 HO5 hi5 X5
          go_wp2_with fail
          refine (newForkN_at vo va o a w6 (unhide ho6) (unhide ha6) (by have := unhide HN; simp only [fork_txt, List.length_append] at this ⊢; omega) ((unhide HW2).below (unhide X6))).mono ?_
          rintro y z1 ⟨g1, rfl, n1, y1⟩
          dsimp only
          go_wp2_with fail
          refine (newForkN_at vb vr b r z1 (IsNd.on y1 (unhide hb6)) (IsNd.on y1 (unhide HO6)) (by have := unhide HN; simp only [fork_txt, List.length_append] at this ⊢; omega) ((unhide HW2).below ((unhide X6).trans (y1.mono (unhide X6).size)))).mono ?_
          rintro y z2 ⟨g2, rfl, n2, y2⟩
          dsimp only
          go_wp2_with fail
          refine (newForkN_at (forkV g1) (forkV g2) (.fork o a) (.fork b r) z2 (IsNd.on y2 n1) n2 (by have := unhide HN; simp only [fork_txt, List.length_append] at this ⊢; omega) ((unhide HW2).below ((unhide X6).trans ((y1.trans (y2.mono y1.size)).mono (unhide X6).size)))).mono ?_
          rintro y z3 ⟨g3, rfl, n3, y3⟩
          dsimp only
          go_wp2_with fail
          go_ret
          exact ⟨_, rfl, by rw [unhide HB]; exact n3, (unhide HX2).trans (((unhide X6).trans (((y1.trans (y2.mono y1.size)).trans (y3.mono (y1.trans (y2.mono y1.size)).size)).mono (unhide X6).size)).mono (unhide HX2).size)⟩
  · have t1 : ¬ ((1 : Int) < (l.high : Int) - (r.high : Int)) := by omega
    by_cases c2 : l.high + 1 < r.high
    · have t2 : (l.high : Int) - (r.high : Int) < -1 := by omega
      cases r with
      | tip x =>
        exfalso
        have : (Nd.tip x).high = 1 := rfl
        omega
      | fork i o =>
        have HC := hide (And.intro c1 c2)
        clear c1 c2
        go_wp2_with fail
        refine (halvesF9_at i o vr w2 (unhide HR2)).mono ?_
        rintro y w3 ⟨vi, vo, rfl, hi3, ho3, x3⟩
        dsimp only
        have HO3 := hide (IsNd.on x3 (unhide HL2))
        have hi3 := hide hi3
        have ho3 := hide ho3
        have hho := high_one o
        have hqi := high_txt (unhide hi3)
        have hqo := high_txt (unhide ho3)
        go_wp2_with (refine wpList_high rfl (.tmp 62) rfl vi i rfl (unhide hi3) ?_)
        intro w4 x4
        have ho4 := hide (IsNd.on x4 (unhide ho3))
        go_wp2_with (refine wpList_high rfl (.tmp 64) rfl vo o rfl (unhide ho4) ?_)
        intro w5 x5
        have x35 := x3.trans ((x4.trans (x5.mono x4.size)).mono x3.size)
        have x45 := x4.trans (x5.mono x4.size)
        have hi5 := hide (IsNd.on x45 (unhide hi3))
        have ho5 := hide (IsNd.on x45 (unhide ho3))
        have HO5 := hide (IsNd.on x45 (unhide HO3))
        have X5 := hide x35
        clear x3 x4 x5 x35 x45 hi3 ho3 ho4 HO3 hqi hqo
        by_cases c3 : i.high ≤ o.high
        · have t3 : (i.high : Int) ≤ (o.high : Int) := by omega
          have HB : Hid (balN l (.fork i o) = .fork (.fork l i) o) := hide (by unfold balN; obtain ⟨c1, c2⟩ := unhide HC; rw [if_neg c1, if_pos c2]; dsimp only; rw [if_pos c3])
          go_wp2_with fail
          refine (newForkN_at vl vi l i w5 (unhide HO5) (unhide hi5) (by have := unhide HN; simp only [fork_txt, List.length_append] at this ⊢; omega) ((unhide HW2).below (unhide X5))).mono ?_
          rintro y z1 ⟨g1, rfl, n1, y1⟩
          dsimp only
          go_wp2_with fail
          refine (newForkN_at (forkV g1) vo (.fork l i) o z1 n1 (IsNd.on y1 (unhide ho5)) (by have := unhide HN; simp only [fork_txt, List.length_append] at this ⊢; omega) ((unhide HW2).below ((unhide X5).trans (y1.mono (unhide X5).size)))).mono ?_
          rintro y z2 ⟨g2, rfl, n2, y2⟩
          dsimp only
          go_wp2_with fail
          go_ret
          exact ⟨_, rfl, by rw [unhide HB]; exact n2, (unhide HX2).trans (((unhide X5).trans ((y1.trans (y2.mono y1.size)).mono (unhide X5).size)).mono (unhide HX2).size)⟩
        · have t3 : ¬ ((i.high : Int) ≤ (o.high : Int)) := by omega
          cases i with
          | tip x =>
            exfalso
            have : (Nd.tip x).high = 1 := rfl
            omega
          | fork a b =>
            have HB : Hid (balN l (.fork (.fork a b) o) = .fork (.fork l a) (.fork b o)) := hide (by unfold balN; obtain ⟨c1, c2⟩ := unhide HC; rw [if_neg c1, if_pos c2]; dsimp only; rw [if_neg c3])
            clear c3
            go_wp2_with fail
            refine (halvesF9_at a b vi w5 (unhide hi5)).mono ?_
            rintro y w6 ⟨va, vb, rfl, ha6, hb6, x6⟩
            dsimp only
            have X6 := hide ((unhide X5).trans (x6.mono (unhide X5).size))
            have ha6 := hide ha6
            have hb6 := hide hb6
            have ho6 := hide (IsNd.on x6 (unhide ho5))
            have HO6 := hide (IsNd.on x6 (unhide HO5))
            clear x6 ho5 HO5 hi5 X5
            go_wp2_with fail
            refine (newForkN_at vl va l a w6 (unhide HO6) (unhide ha6) (by have := unhide HN; simp only [fork_txt, List.length_append] at this ⊢; omega) ((unhide HW2).below (unhide X6))).mono ?_
            rintro y z1 ⟨g1, rfl, n1, y1⟩
            dsimp only
            go_wp2_with fail
            refine (newForkN_at vb vo b o z1 (IsNd.on y1 (unhide hb6)) (IsNd.on y1 (unhide ho6)) (by have := unhide HN; simp only [fork_txt, List.length_append] at this ⊢; omega) ((unhide HW2).below ((unhide X6).trans (y1.mono (unhide X6).size)))).mono ?_
            rintro y z2 ⟨g2, rfl, n2, y2⟩
            dsimp only
            go_wp2_with fail
            refine (newForkN_at (forkV g1) (forkV g2) (.fork l a) (.fork b o) z2 (IsNd.on y2 n1) n2 (by have := unhide HN; simp only [fork_txt, List.length_append] at this ⊢; omega) ((unhide HW2).below ((unhide X6).trans ((y1.trans (y2.mono y1.size)).mono (unhide X6).size)))).mono ?_
            rintro y z3 ⟨g3, rfl, n3, y3⟩
            dsimp only
            go_wp2_with fail
            go_ret
            exact ⟨_, rfl, by rw [unhide HB]; exact n3, (unhide HX2).trans (((unhide X6).trans (((y1.trans (y2.mono y1.size)).trans (y3.mono (y1.trans (y2.mono y1.size)).size)).mono (unhide X6).size)).mono (unhide HX2).size)⟩
    · have t2 : ¬ ((l.high : Int) - (r.high : Int) < -1) := by omega
      have HBN : Hid (balN l r = .fork l r) := hide (by unfold balN; rw [if_neg c1, if_neg c2])
      clear c1 c2
      go_wp2_with fail
      refine (newForkN_at vl vr l r w2 (unhide HL2) (unhide HR2) (unhide HN) (unhide HW2)).mono ?_
      rintro y w3 ⟨g, rfl, n3, x3⟩
      dsimp only
      go_wp2_with fail
      go_ret
      exact ⟨_, rfl, by rw [unhide HBN]; exact n3, (unhide HX2).trans (x3.mono (unhide HX2).size)⟩
end
section
attribute [local go_sem] Oper.semAt_some
theorem IsNd.form {W : World} : ∀ {t : Nd} {v : Value}, IsNd W v t → ∃ T u, v = .iface T u
  | .tip _, _, ⟨_, e, _⟩ => ⟨_, _, e⟩
  | .fork _ _, _, ⟨_, _, _, e, _⟩ => ⟨_, _, e⟩
theorem linked9_at : ∀ (n : Nat) (a b : Nd) (va vb : Value) (w : World), SizeOf.sizeOf a + SizeOf.sizeOf b ≤ n → IsNd w va a → IsNd w vb b → a.txt.length + b.txt.length ≤ 268435456 → Wt w →
    Calls Tryz.prog 92 #[va, vb] w fun y w' => ∃ v, y = .returned v ∧ IsNd w' v (linkN a b) ∧ Below w.heap.size w w'
  | 0, a, b, va, vb, w, hsz, _, _, _, _ => by
    exfalso
    cases a <;> simp at hsz
  | n + 1, a, b, va, vb, w, hsz, ha, hb, hn, hW => by
    have IH := fun a b va vb w h1 h2 h3 h4 h5 => linked9_at n a b va vb w h1 h2 h3 h4 h5
    have IH := hide IH
    have q1 := high_txt ha
    have q2 := high_txt hb
    have p1 := high_one a
    have p2 := high_one b
    have hw1 : IntKind.i64.wrap ((b.high : Int) + 1) = (b.high : Int) + 1 := by rw [IntKind.wrap_i64]; omega
    have hw2 : IntKind.i64.wrap ((a.high : Int) + 1) = (a.high : Int) + 1 := by rw [IntKind.wrap_i64]; omega
    obtain ⟨Ta, ua, rfl⟩ := ha.form
    obtain ⟨Tb, ub, rfl⟩ := hb.form
    have hif := ifn9
    have HL := hide ha
    have HR := hide hb
    have HW := hide hW
    have HN := hide hn
    clear ha hb hW hn q1 q2
    go_enter Tryz.func92, Tryz.ntmps92
    go_wp2_with (refine wpList_high rfl (.tmp 18) rfl (.iface Ta ua) a rfl (unhide HL) ?_)
    intro w1 x1
    have HR1 := hide (IsNd.on x1 (unhide HR))
    go_wp2_with (refine wpList_high rfl (.tmp 20) rfl (.iface Tb ub) b rfl (unhide HR1) ?_)
    intro w2 x2
    have x12 := x1.trans (x2.mono x1.size)
    have HA2 := hide (IsNd.on x12 (unhide HL))
    have HB2 := hide (IsNd.on x12 (unhide HR))
    have HX2 := hide x12
    have HW2 := hide ((unhide HW).below x12)
    clear HR1 x1 x2 x12 HL HR
    by_cases c1 : b.high + 1 < a.high
    · have t1 : (b.high : Int) + 1 < (a.high : Int) := by omega
      have IH := unhide IH
      cases a with
      | tip x =>
        exfalso
        have : (Nd.tip x).high = 1 := rfl
        omega
      | fork p q =>
        have HK : Hid (linkN (.fork p q) b = balN p (linkN q b)) := hide (by rw [linkN.eq_def]; rw [if_pos c1])
        go_wp2_with fail
        refine (halvesF9_at p q (.iface Ta ua) w2 (unhide HA2)).mono ?_
        rintro y w3 ⟨vp, vq, rfl, hp3, hq3, x3⟩
        dsimp only
        have HO3 := hide (IsNd.on x3 (unhide HB2))
        have hp3 := hide hp3
        have hq3 := hide hq3
        go_wp2_with fail
        refine (IH q b vq (.iface Tb ub) w3 (by simp only [Nd.fork.sizeOf_spec] at hsz; omega) (unhide hq3) (unhide HO3) (by have := unhide HN; simp only [fork_txt, List.length_append] at this ⊢; omega) ((unhide HW2).below x3)).mono ?_
        rintro y w5 ⟨v5, rfl, n5, x5⟩
        dsimp only
        go_wp2_with fail
        refine (balanced9_at p (linkN q b) vp v5 w5 (IsNd.on x5 (unhide hp3)) n5 (by have := unhide HN; rw [linkN_txt]; simp only [fork_txt, List.length_append] at this ⊢; omega) ((unhide HW2).below (x3.trans (x5.mono x3.size)))).mono ?_
        rintro y w6 ⟨v6, rfl, n6, x6⟩
        dsimp only
        go_wp2_with fail
        go_ret
        have x36 := x3.trans ((x5.trans (x6.mono x5.size)).mono x3.size)
        exact ⟨_, rfl, by rw [unhide HK]; exact n6, (unhide HX2).trans (x36.mono (unhide HX2).size)⟩
    · have t1 : ¬ ((b.high : Int) + 1 < (a.high : Int)) := by omega
      go_wp2_with (refine wpList_high rfl (.tmp 35) rfl (.iface Tb ub) b rfl (unhide HB2) ?_)
      intro w3' x3'
      have HA3 := hide (IsNd.on x3' (unhide HA2))
      go_wp2_with (refine wpList_high rfl (.tmp 37) rfl (.iface Ta ua) a rfl (unhide HA3) ?_)
      intro w4 x4
      have x14 := (unhide HX2).trans ((x3'.trans (x4.mono x3'.size)).mono (unhide HX2).size)
      have HB4 := hide (IsNd.on (x3'.trans (x4.mono x3'.size)) (unhide HB2))
      have HA4 := hide (IsNd.on x4 (unhide HA3))
      have HW4 := hide ((unhide HW).below x14)
      have HX4 := hide x14
      clear HA2 HB2 HX2 HW2 HA3 x3' x4 x14
      have HA2 := HA4
      have HB2 := HB4
      have HW2 := HW4
      have HX2 := HX4
      clear HA4 HB4 HW4 HX4
      by_cases c2 : a.high + 1 < b.high
      · have t2 : (a.high : Int) + 1 < (b.high : Int) := by omega
        have IH := unhide IH
        cases b with
        | tip x =>
          exfalso
          have : (Nd.tip x).high = 1 := rfl
          omega
        | fork p q =>
          have HK : Hid (linkN a (.fork p q) = balN (linkN a p) q) := hide (by rw [linkN.eq_def]; rw [if_neg c1, if_pos c2])
          go_wp2_with fail
          refine (halvesF9_at p q (.iface Tb ub) w4 (unhide HB2)).mono ?_
          rintro y w3 ⟨vp, vq, rfl, hp3, hq3, x3⟩
          dsimp only
          have HO3 := hide (IsNd.on x3 (unhide HA2))
          have hp3 := hide hp3
          have hq3 := hide hq3
          go_wp2_with fail
          refine (IH a p (.iface Ta ua) vp w3 (by simp only [Nd.fork.sizeOf_spec] at hsz; omega) (unhide HO3) (unhide hp3) (by have := unhide HN; simp only [fork_txt, List.length_append] at this ⊢; omega) ((unhide HW2).below x3)).mono ?_
          rintro y w5 ⟨v5, rfl, n5, x5⟩
          dsimp only
          go_wp2_with fail
          refine (balanced9_at (linkN a p) q v5 vq w5 n5 (IsNd.on x5 (unhide hq3)) (by have := unhide HN; rw [linkN_txt]; simp only [fork_txt, List.length_append] at this ⊢; omega) ((unhide HW2).below (x3.trans (x5.mono x3.size)))).mono ?_
          rintro y w6 ⟨v6, rfl, n6, x6⟩
          dsimp only
          go_wp2_with fail
          go_ret
          have x36 := x3.trans ((x5.trans (x6.mono x5.size)).mono x3.size)
          exact ⟨_, rfl, by rw [unhide HK]; exact n6, (unhide HX2).trans (x36.mono (unhide HX2).size)⟩
      · have t2 : ¬ ((a.high : Int) + 1 < (b.high : Int)) := by omega
        have HBN : Hid (linkN a b = .fork a b) := hide (by rw [linkN.eq_def, if_neg c1, if_neg c2])
        clear c1 c2
        go_wp2_with fail
        refine (newForkN_at (.iface Ta ua) (.iface Tb ub) a b w4 (unhide HA2) (unhide HB2) (unhide HN) (unhide HW2)).mono ?_
        rintro y w3 ⟨g, rfl, n3, x3⟩
        dsimp only
        go_wp2_with fail
        go_ret
        exact ⟨_, rfl, by rw [unhide HBN]; exact n3, (unhide HX2).trans (x3.mono (unhide HX2).size)⟩
end
section
attribute [local go_sem] Oper.semAt_some
theorem nil9' (w : World) : (binOp .neq 95 .nilIface .nilIface).run Tryz.prog w = .ok (.bool false) w := by kernel_rfl
end
end Go.Proofs.YteamaneompijkaaGreatDoor
