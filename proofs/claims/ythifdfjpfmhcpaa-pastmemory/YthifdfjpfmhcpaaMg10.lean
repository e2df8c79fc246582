/- Layer 17: lists appended to lists, cut; lists of numbers of one's own. · A region that draws its order, within a round of a loop over an iterator: the walk outside a round serves. -/
import Derived.Test.YthifdfjpfmhcpaaMg09
import Derived.Deep.AppendSrc
import Derived.Test.YthifdfjpfmhcpaaMg06
import Derived.Deep.RegionHeld

section
namespace Go.Proofs.Ythifdfjpfmhcpaa
open Go.ChangeShapes Go.WideShapes Go.ChangeAt Go.RowKit

section
variable {P : Program}
/-- more elements, whatever they lie in -/
theorem RA.pushN {X : World} {s n : Nat} {v : Value} {xs : List Value} {k : Option Nat} (h : RA X s v n xs k) (t ty e : TypeId) (i : TypeInfo) (z : Value) (bytes : Nat) (ht : P.underlying t = some (.slice e)) (hi : P.info? e = some i) (hz : i.zero = some z)
    (hsize : i.size = s) (hby : i.bytes = bytes) (hzs : z.cells.size = s)
    (x : Value) (q : Nat) (news : List Value) (hsrc : Src P s t x q news X) (hn0 : v = .slice none 0 0 → 0 < q)
    (hn : n + q ≤ 1000000000) (hbytes : (n + q) * bytes ≤ 140737488355328) :
    ∃ v' Y k', (Builtin.append_ #[t, t] ty #[v, x]).run P X = .ok v' Y ∧ RA Y s v' (n + q) (xs ++ news) k' ∧ KpF (fun b => k = some b) X Y ∧ (k' = k ∧ k ≠ none ∨ k' = some X.heap.size) := by
  subst hsize
  subst hby
  have hl := hsrc.newsLen
  have hlen : (xs ++ news).length = (n + q) * i.size := by rw [List.length_append, h.len, hl, Nat.add_mul]
  have grow : ∀ (base : Option Addr) (cap : Nat), cap < n + q → (Builtin.firstCells i.size n (.slice base n cap)).run P X.drew = .ok xs.toArray X.drew →
      ∃ v' Y k', (Builtin.append_ #[t, t] ty #[.slice base n cap, x]).run P X = .ok v' Y ∧ RA Y i.size v' (n + q) (xs ++ news) k' ∧ KpF (fun b => k = some b) X Y ∧ (k' = k ∧ k ≠ none ∨ k' = some X.heap.size) := by
    intro base cap hc hold
    have hr := run_append_grow_src (P := P) X t t ty e i z ht hi hz base n cap xs hold x q news hsrc hc (by omega) (growslice_fits (by omega) hbytes)
    have hge : n + q ≤ grownCap X (n + q) cap e := grownCap_ge X (n + q) cap e
    refine ⟨_, _, some X.heap.size, hr, ?_, ?_, .inr rfl⟩
    · generalize grownCap X (n + q) cap e = C at hge ⊢
      have hH : ((X.drew.alloc (.cells ((xs ++ news).toArray ++ Builtin.zeroCells z.cells (C - (n + q))) e))).heap[X.heap.size]? = Option.some (.cells ((xs ++ news).toArray ++ Builtin.zeroCells z.cells (C - (n + q))) e (0, 0)) := heap_alloc_new X.drew _
      have hsz : ((xs ++ news).toArray ++ Builtin.zeroCells z.cells (C - (n + q))).size = C * i.size := by
        rw [Array.size_append, List.size_toArray, hlen, size_zeroCells, hzs, ← Nat.add_mul]
        congr 1; omega
      refine ⟨hlen, .inr ⟨X.heap.size, 0, C, rfl, rfl, by simp, hge, fun j hj => ⟨?_, ?_⟩, fun j hj => ?_⟩⟩
      · simp only [World.cell?, hH, Nat.zero_add]
        rw [Array.getElem?_eq_getElem (by rw [hsz]; exact hj)]; rfl
      · simp only [World.frozen?]
        rw [hH]
        simp
      · simp only [World.cell?, hH, Nat.zero_add]
        rw [Array.getElem?_append_left (by rw [List.size_toArray, hlen]; exact hj)]
        simp
    · exact KpF.of (((Below.refl X.heap.size X).drew).alloc (Nat.le_refl _) _)
  rcases h.val with ⟨rfl, rfl, rfl⟩ | ⟨g, off, cap, rfl, rfl, hg, hnc, hroom, hcell⟩
  · have hx : xs = [] := List.eq_nil_of_length_eq_zero (by rw [h.len]; simp)
    subst hx
    have := hn0 rfl
    exact grow none 0 (by omega) (run_firstCells_none X.drew i.size 0 0 0)
  · by_cases hr : n + q ≤ cap
    · have hin : ∀ j, j < news.length → n * i.size + j < cap * i.size := by
        intro j hj
        have : (n + q) * i.size ≤ cap * i.size := Nat.mul_le_mul_right _ hr
        rw [Nat.add_mul] at this
        omega
      have hrun := run_append_room_src (P := P) X t t ty e i ht hi g off n cap x q news hsrc hr (fun j hj => by rw [Nat.add_assoc]; exact (hroom _ (hin j hj)).1) (fun j hj => by rw [Nat.add_assoc]; exact (hroom _ (hin j hj)).2)
      have hszz : (X.setCells g (off + n * i.size) news).heap.size = X.heap.size := (setCells_kpf g news (off + n * i.size) X).2
      have hsome : ∀ j, j < news.length → (X.cell? ⟨g, off + n * i.size + j, none⟩).isSome = true := fun j hj => by rw [Nat.add_assoc]; exact (hroom _ (hin j hj)).1
      refine ⟨_, _, some g, hrun, ?_, ?_, .inl ⟨rfl, by simp⟩⟩
      · refine ⟨hlen, .inr ⟨g, off, cap, rfl, rfl, by rw [hszz]; exact hg, hr, fun j hj => ⟨?_, ?_⟩, fun j hj => ?_⟩⟩
        · by_cases hj2 : n * i.size ≤ j ∧ j < n * i.size + news.length
          · have := World.cell?_setCells_in g news (off + n * i.size) X hsome (j - n * i.size) (by omega)
            rw [show off + n * i.size + (j - n * i.size) = off + j by omega] at this
            rw [this]; rfl
          · rw [World.cell?_setCells_out g news (off + n * i.size) X ⟨g, off + j, none⟩ (fun _ _ => by dsimp only; omega)]
            exact (hroom j hj).1
        · rw [World.frozen?_setCells]
          exact (hroom j hj).2
        · rw [Nat.add_mul] at hj
          by_cases hj2 : n * i.size ≤ j
          · have hj3 : j - n * i.size < news.length := by omega
            have := World.cell?_setCells_in g news (off + n * i.size) X hsome (j - n * i.size) hj3
            rw [show off + n * i.size + (j - n * i.size) = off + j by omega] at this
            rw [this, List.getElem?_append_right (by rw [h.len]; exact hj2), h.len, List.getElem?_eq_getElem hj3]
          · rw [World.cell?_setCells_out g news (off + n * i.size) X ⟨g, off + j, none⟩ (fun _ _ => by dsimp only; omega), List.getElem?_append_left (by rw [h.len]; omega)]
            exact hcell j (by omega)
      · exact (setCells_kpf g news (off + n * i.size) X).1.mono fun b _ e => by rw [e]
    · refine grow (some ⟨g, off, none⟩) cap (by omega) (run_firstCells_some X.drew i.size n ⟨g, off, none⟩ n cap xs h.len (fun j u hu => ?_))
      have hj : j < n * i.size := by rw [← h.len]; exact (List.getElem?_eq_some_iff.1 hu).1
      rw [Addr.add_lit]
      show X.cell? ⟨g, off + j, none⟩ = _
      rw [hcell j hj, hu]
end
/-- a row, as it is read by an append -/
theorem RA.src {P : Program} {X : World} {s n : Nat} {v : Value} {xs : List Value} {k : Option Nat} (h : RA X s v n xs k) {t e : TypeId} (ht : P.underlying t = some (.slice e)) (h1 : ∀ u ∈ xs, u.oneCell' = true) : Src P s t v n xs X := by
  rcases h.val with ⟨rfl, rfl, _⟩ | ⟨g, off, cap, rfl, _, _, _, _, hc⟩
  · have hx : xs = [] := List.eq_nil_of_length_eq_zero (by rw [h.len]; simp)
    subst hx
    exact Src.ofNil X ht 0
  · refine Src.ofSlice X ht ⟨g, off, none⟩ n cap xs h.len (fun j u hj => ?_) h1
    rw [Addr.add_lit]
    show X.cell? ⟨g, off + j, none⟩ = _
    rw [hc j (by rw [← h.len]; exact (List.getElem?_eq_some_iff.1 hj).1), hj]
set_option maxRecDepth 100000 in
theorem appW {X : World} {v v2 : Value} {l l2 : List ByteArray} {k k2 : Option Nat} (h : RS X v l k) (h2 : RS X v2 l2 k2) (h0 : v = .slice none 0 0 → 0 < l2.length) (hn : l.length + l2.length ≤ 1000000) :
    ∃ v' Y k', (Builtin.append_ #[37, 37] 37 #[v, v2]).run Try.prog X = .ok v' Y ∧ RS Y v' (l ++ l2) k' ∧ KpF (fun b => k = some b) X Y ∧ (k' = k ∧ k ≠ none ∨ k' = some X.heap.size) := by
  obtain ⟨v', Y, k', hr, h5, h6, h7⟩ := RA.pushN (P := Try.prog) h 37 37 9 _ _ 16 Try.underlying37 rfl rfl rfl rfl rfl v2 l2.length (l2.map Value.string) (RA.src h2 Try.underlying37 (fun u hu => by obtain ⟨x, _, rfl⟩ := List.mem_map.1 hu; rfl)) h0 (by omega) (by omega)
  refine ⟨v', Y, k', hr, ?_, h6, h7⟩
  unfold RS
  rw [List.map_append, List.length_append]
  exact h5
/-- the first ones of a list -/
theorem RA.cut {X : World} {s n g off cap m : Nat} {xs : List Value} {k : Option Nat} (h : RA X s (.slice (some ⟨g, off, none⟩) n cap) n xs k) (hm : m ≤ n) : RA X s (.slice (some ⟨g, off, none⟩) m cap) m (xs.take (m * s)) k := by
  have hms : m * s ≤ n * s := Nat.mul_le_mul_right s hm
  refine ⟨by rw [List.length_take, h.len]; omega, ?_⟩
  rcases h.val with ⟨e, _⟩ | ⟨g', off', cap', e1, e2, h3, h4, h5, h6⟩
  · cases e
  · cases e1
    refine .inr ⟨g, off, cap, rfl, e2, h3, by omega, h5, fun i hi => ?_⟩
    rw [h6 i (by omega), List.getElem?_take_of_lt hi]
theorem RS.cut {X : World} {g off n cap m : Nat} {l : List ByteArray} {k : Option Nat} (h : RS X (.slice (some ⟨g, off, none⟩) n cap) l k) (hn : n = l.length) (hm : m ≤ l.length) : RS X (.slice (some ⟨g, off, none⟩) m cap) (l.take m) k := by
  subst hn
  have h1 : RA X 1 (.slice (some ⟨g, off, none⟩) l.length cap) l.length (l.map Value.string) k := h
  have := h1.cut hm
  unfold RS
  rw [List.length_take, Nat.min_eq_left hm, List.map_take]
  rw [Nat.mul_one] at this
  exact this
/-- numbers of one's own -/
def RI (X : World) (v : Value) (l : List Int) (k : Option Nat) : Prop := RA X 1 v l.length (l.map (Value.int .i64)) k
set_option maxRecDepth 100000 in
theorem pushNum {X : World} {v : Value} {l : List Int} {k : Option Nat} (h : RI X v l k) (x : Int) (hn : l.length ≤ 1000000) :
    ∃ v' Y k', (Builtin.append_ #[41, 41] 41 #[v, .slice (some ⟨X.heap.size, 0, none⟩) 1 1]).run Try.prog (X.alloc (.cells #[.int .i64 x] 3)) = .ok v' Y ∧ RI Y v' (l ++ [x]) k' ∧
      KpF (fun b => k = some b) X Y ∧ (k' = k ∧ k ≠ none ∨ ∃ h, k' = some h ∧ X.heap.size ≤ h) := by
  have h1 := RA.allocd h (.cells #[.int .i64 x] 3)
  obtain ⟨v', Y, k', hr, h2, h3, h4⟩ := h1.push (P := Try.prog) 41 41 3 _ _ 8 Try.underlying41 rfl rfl rfl rfl rfl ⟨X.heap.size, 0, none⟩ 1 [.int .i64 x] rfl (fun j u hj => by
      rw [Addr.add_lit, Nat.zero_add]
      refine (World.cell?_alloc_mark X _ _ (0, 0) j).trans ?_
      rw [List.getElem?_toArray]; exact hj) (fun u hu => by
      simp only [List.mem_cons, List.not_mem_nil, or_false] at hu
      rcases hu with rfl <;> rfl) (by omega) (by omega)
  refine ⟨v', Y, k', hr, ?_, ((KpF.alloc _ X _).trans h3 (fun _ _ e => e)), ?_⟩
  · unfold RI
    rw [List.map_append, List.length_append]
    exact h2
  · rcases h4 with h4 | h4
    · exact .inl h4
    · exact .inr ⟨_, h4, by simp⟩
theorem RI.kpf {F : Nat → Prop} {X Y : World} {v : Value} {l : List Int} {k : Option Nat} (h : RI X v l k) (b : KpF F X Y) (hF : ∀ g, k = some g → ¬ F g) : RI Y v l k := RA.kpf h b hF
theorem RI.get {X : World} {v : Value} {l : List Int} {k : Option Nat} (h : RI X v l k) {i : Nat} (hi : i < l.length) : ∃ g off cap, v = .slice (some ⟨g, off, none⟩) l.length cap ∧ k = some g ∧ g < X.heap.size ∧ X.cell? ⟨g, off + i, none⟩ = some (.int .i64 l[i]) := by
  obtain ⟨g, off, cap, e, hk, hg, _, _, hc⟩ := RA.form h (by omega)
  refine ⟨g, off, cap, e, hk, hg, ?_⟩
  rw [hc i (by omega), List.getElem?_map, List.getElem?_eq_getElem hi]; rfl
end Go.Proofs.Ythifdfjpfmhcpaa
end

section
namespace Go.Proofs.Ythifdfjpfmhcpaa
open Go.ChangeShapes Go.WideShapes Go.ChangeAt Go.RowKit

theorem oper_in {P : Program} {l n : Nat} {o : Oper} {a : Act} {w : World} {K : Act → World → Prop} {Q : Exit → Act → World → Prop} (hd : ∀ c, o.op ≠ .defer c) (h : o.wp P a w K Q) : o.wpIn (Fence.wide.inRound l) n P a w K Q := by
  refine ⟨fun _ _ => trivial, ?_⟩
  rw [Oper.semAt_eq _ _ _ hd]
  unfold Oper.wp at h
  generalize (execOp a.eval o).run P w = r at h
  cases r with
  | ok x w' =>
    cases x with
    | value v => exact h
    | skip => exact h
    | defer d => exact h
    | enter f args => exact ⟨(fun e => by cases e), CallsIn.inRound l (callsIn_wide.2 h)⟩
    | row row args =>
      refine ⟨(fun e => by cases e), fun c cs _ => ?_⟩
      obtain ⟨v, w', hr, hs⟩ := h c cs
      exact ⟨v, w', hr, stepsIn_wide.2 hs⟩
    | _ => exact h.elim
  | halt x w' =>
    cases x with
    | panic v => exact h
    | _ => exact h.elim

theorem op_in {P : Program} {ops : Array Oper} {l n i : Nat} {a : Act} {w : World} {K : Act → World → Prop} {Q : Exit → Act → World → Prop} (hd : ∀ (j : Nat) (o : Oper) c, ops[j]? = some o → o.op ≠ .defer c) (hq : ¬ LetsOut Q)
    (h : wpOp P ops Q i K a w) : wpOpIn (Fence.wide.inRound l) n P ops Q i K a w := by
  unfold wpOp at h
  unfold wpOpIn
  cases ho : ops[i]? with
  | none => rw [ho] at h; exact h
  | some o =>
    rw [ho] at h
    simp only at h ⊢
    split at h
    · rename_i hw
      rw [if_pos hw]
      rcases h with h | h
      · exact oper_in (fun c => hd i o c ho) h
      · exact absurd h.2 hq
    · rename_i hw
      rw [if_neg hw]
      exact ⟨fun _ _ => trivial, h⟩

theorem any_in {P : Program} {md : Region.Mode} {ops : Array Oper} {l n : Nat} {Q : Exit → Act → World → Prop} (hd : ∀ (j : Nat) (o : Oper) c, ops[j]? = some o → o.op ≠ .defer c) (hq : ¬ LetsOut Q) :
    ∀ (fuel : Nat) (listed : Array Bool) (a : Act) (w : World), wpAny P md ops Q fuel listed a w → wpAnyIn (Fence.wide.inRound l) n P md ops Q fuel listed a w
  | 0, _, _, _, h => h
  | fuel + 1, _, _, _, h => ⟨h.1, fun i hi => wpOpIn_mono (fun a w => any_in hd hq fuel _ a w) (op_in hd hq (h.2 i hi))⟩

/-- the beginning, within a round -/
theorem region_in {P : Program} {ops : Array Oper} {l n id : Nat} {a : Act} {w : World} {Q : Exit → Act → World → Prop} {S : World → Prop} (hm : P.follows .mixedOrders = true) (hd : ∀ (j : Nat) (o : Oper) c, ops[j]? = some o → o.op ≠ .defer c) (hq : ¬ LetsOut Q)
    (hS : S w.drew) (h : S w.drew → wpAnyH P .any ops Q S ops.size (Array.replicate ops.size false) a w.drew) : (Code.region id ops true).wpIn (Fence.wide.inRound l) n P Q a w :=
  wpIn_region_any hm (any_in hd hq _ _ _ _ (wpAny_of_held _ _ _ _ (h hS)))

theorem step_append_in {P : Program} {ops : Array Oper} {o : Oper} {a : Act} {w : World} {K : Act → World → Prop} {Q : Exit → Act → World → Prop} {E : Prop} (hw : Region.wanted o (yielded ops a.tmps) = true) (s x : Operand) (t tx : TypeId)
    (ho : o.op = .call { callee := .builtin .append, args := #[s, x], argTypes := #[t, tx] }) (v u : Value) (hs : a.eval s = v) (hx : a.eval x = u) (v' : Value) (w' : World)
    (hr : (Builtin.append_ #[t, tx] o.type #[v, u]).run P w = .ok v' w') (h : K (a.put o.dst v') w') : if Region.wanted o (yielded ops a.tmps) = true then Oper.wp P o a w K Q else E := by
  rw [if_pos hw]
  unfold Oper.wp execOp
  simp only [ho, resolve, invoke, builtin, Sem.run_bind, Sem.run_pure, Result.andThen_ok, List.map_toArray, List.map_cons, List.map_nil, hs, hx, hr]
  exact h

end Go.Proofs.Ythifdfjpfmhcpaa
end
