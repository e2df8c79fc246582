/- Layer 16: lists of both states, for RangesStay (written by wip/tools/rgs.py). · Layer 16: the law's play: Set (written by wip/tools/rgs.py). -/
import Derived.Test.YtifpjdodignflaaRp41

section
namespace Go.Proofs.Ytifpjdodignflaa
open Go.ChangeShapes Go.WideShapes Go.ChangeAt Go.RowKit
attribute [local go_sem] Oper.semAt_some

/-- a state: the program's ranges, the document's -/
structure Rst where
  g : Nat
  n : Int
  L : List Rg
  a : Option Addr
  c : Nat
  D : List Rg
def rstZ : Rst := ⟨0, 0, [], none, 0, []⟩
instance : Inhabited Rst := ⟨rstZ⟩
def rstP (x : Rst) : List Value := [.pointer (some ⟨x.g, 0, none⟩)]
def rstL (x : Rst) : List Value := [.int .i64 x.n, .slice x.a x.D.length x.c]
def rpV (S : List Rst) : List Value := S.flatMap rstP
def rtV (S : List Rst) : List Value := S.flatMap rstL
theorem rpV_app (a b : List Rst) : rpV (a ++ b) = rpV a ++ rpV b := by simp [rpV]
theorem rtV_app (a b : List Rst) : rtV (a ++ b) = rtV a ++ rtV b := by simp [rtV]
theorem flatR_at {α : Type} (f : α → List Value) (m : Nat) (hf : ∀ x, (f x).length = m) (z : α) : ∀ (q : List α) (k j : Nat), k < q.length → j < m → (q.flatMap f)[k * m + j]? = (f (q.getD k z))[j]?
  | [], k, _, hk, _ => absurd hk (by simp)
  | t :: ts, 0, j, _, hj => by
    rw [List.flatMap_cons, Nat.zero_mul, Nat.zero_add, List.getElem?_append_left (by rw [hf]; exact hj)]; rfl
  | t :: ts, k + 1, j, hk, hj => by
    have ih := flatR_at f m hf z ts k j (by simpa using hk) hj
    rw [List.flatMap_cons, List.getElem?_append_right (by rw [hf, Nat.succ_mul]; omega), show (k + 1) * m + j - (f t).length = k * m + j by rw [hf, Nat.succ_mul]; omega]
    simpa using ih
set_option maxRecDepth 100000 in
theorem info_pr : ∃ i, Try.prog.info? 24 = some i ∧ i.zero = some (.pointer none) ∧ i.size = 1 ∧ i.bytes = 8 := by
  refine ⟨_, rfl, ?_, ?_, ?_⟩ <;> rfl
set_option maxRecDepth 100000 in
theorem info_rr : ∃ i, Try.prog.info? 30 = some i ∧ i.zero = some (.agg #[.int .i64 0, .slice none 0 0]) ∧ i.size = 2 ∧ i.bytes = 32 := by
  refine ⟨_, rfl, ?_, ?_, ?_⟩ <;> rfl
set_option maxRecDepth 100000 in
theorem push_pr (W : World) (B n : Nat) (v : Value) (xs : List Value) (g b : Nat) (ty : TypeId) (h : W.ownsRow B 24 1 v n xs) (hc : W.cell? ⟨b, 0, none⟩ = some (.pointer (some ⟨g, 0, none⟩))) (hn : n ≤ 1099511627776) (hB : B ≤ W.heap.size) :
    ∃ v' W', (Builtin.append_ #[46, 46] ty #[v, .slice (some ⟨b, 0, none⟩) 1 1]).run Try.prog W = .ok v' W' ∧
      W'.ownsRow B 24 1 v' (n + 1) (xs ++ [.pointer (some ⟨g, 0, none⟩)]) ∧ W.grownBy W' v.ownBlock ∧ Below B W W' := by
  obtain ⟨i, hi, hz, hs, hby⟩ := info_pr
  obtain ⟨g', k, W', hrun, ho, hg, _, _⟩ := run_append_lies (P := Try.prog) W 46 ty B 24 i (.pointer none) 1 8 Try.underlying46 hi hz hs hby rfl (by decide)
    v n xs h ⟨b, 0, none⟩ 1 1 [.pointer (some ⟨g, 0, none⟩)] rfl
    (fun j u hj => by
      match j with
      | 0 => simp at hj; subst hj; rw [Addr.add_lit]; exact hc
      | j + 1 => simp at hj)
    (fun u hu => by simp at hu; rcases hu with rfl; rfl) (by decide) (by unfold maxLen; omega) (by omega) (by omega) _ rfl
  exact ⟨_, W', hrun, ho, hg, (Below.refl B W).grown hg hB (fun k hk => (h.lt k hk).1)⟩
set_option maxRecDepth 100000 in
theorem push_rr (W : World) (B n : Nat) (v : Value) (xs : List Value) (m : Int) (u : Value) (b : Nat) (ty : TypeId) (h : W.ownsRow B 30 2 v n xs) (hu : u.oneCell' = true) (hc : W.cell? ⟨b, 0, none⟩ = some (.int .i64 m)) (hd : W.cell? ⟨b, 1, none⟩ = some u) (hn : n ≤ 1099511627776) (hB : B ≤ W.heap.size) :
    ∃ v' W', (Builtin.append_ #[47, 47] ty #[v, .slice (some ⟨b, 0, none⟩) 1 1]).run Try.prog W = .ok v' W' ∧
      W'.ownsRow B 30 2 v' (n + 1) (xs ++ [.int .i64 m, u]) ∧ W.grownBy W' v.ownBlock ∧ Below B W W' := by
  obtain ⟨i, hi, hz, hs, hby⟩ := info_rr
  obtain ⟨g', k, W', hrun, ho, hg, _, _⟩ := run_append_lies (P := Try.prog) W 47 ty B 30 i (.agg #[.int .i64 0, .slice none 0 0]) 2 32 Try.underlying47 hi hz hs hby rfl (by decide)
    v n xs h ⟨b, 0, none⟩ 1 1 [.int .i64 m, u] rfl
    (fun j x hj => by
      match j with
      | 0 => simp at hj; subst hj; rw [Addr.add_lit]; exact hc
      | 1 => simp at hj; subst hj; rw [Addr.add_lit]; exact hd
      | j + 2 => simp at hj)
    (fun x hx => by simp at hx; rcases hx with rfl | rfl <;> first | rfl | exact hu) (by decide) (by unfold maxLen; omega) (by omega) (by omega) _ rfl
  exact ⟨_, W', hrun, ho, hg, (Below.refl B W).grown hg hB (fun k hk => (h.lt k hk).1)⟩
/-- both states stay where rows of pointers, of the document's ranges alone are written -/
theorem StR.keep {X Y : World} {g : Nat} {n : Int} {L : List Rg} {a : Option Addr} {D : List Rg} (h : StR X g n L a D) (hs : X.heap.size ≤ Y.heap.size) (hk : ∀ k, k < X.heap.size → (∀ (cs : Array Value) (mk : Nat × Nat), X.heap[k]? ≠ some (Obj.cells cs 24 mk)) → (∀ (cs : Array Value) (mk : Nat × Nat), X.heap[k]? ≠ some (Obj.cells cs 30 mk)) → Y.heap[k]? = X.heap[k]?) : StR Y g n L a D := by
  have hblk : ∀ (b : Nat) (cur : Array Value) (mk : Nat × Nat), X.heap[b]? = some (Obj.cells cur 37 mk) → Y.heap[b]? = X.heap[b]? := fun b cur mk hc => hk b (Array.getElem?_eq_some_iff.1 hc).1 (fun cs m e => by rw [hc] at e; cases e) (fun cs m e => by rw [hc] at e; cases e)
  refine ⟨?_, ?_, h.r, h.p, h.l, h.q, ?_⟩
  · obtain ⟨r, h1, h2⟩ := h.m.c
    have h2' := h2
    obtain ⟨es, clock, h3, _⟩ := h2'
    have e1 : Y.heap[g]? = X.heap[g]? := hk g h1.lt (fun cs m e => by unfold Cls at h1; rw [h1] at e; cases e) (fun cs m e => by unfold Cls at h1; rw [h1] at e; cases e)
    have e2 : Y.heap[r]? = X.heap[r]? := hk r h2.lt (fun cs m e => by rw [h3] at e; cases e) (fun cs m e => by rw [h3] at e; cases e)
    exact ⟨r, h1.same e1, h2.same e2⟩
  · rcases h.t with h1 | ⟨b, off, cur, mk, e, hc⟩
    · exact .inl h1
    · rcases h.k with h1 | ⟨b', off', e', hlt, hk'⟩
      · exact .inl h1
      · rw [e] at e'
        cases e'
        refine .inr ⟨b, off, e, Nat.lt_of_lt_of_le hlt hs, fun k hkk => ?_⟩
        have f : ∀ o : Nat, Y.cell? ⟨b, o, none⟩ = X.cell? ⟨b, o, none⟩ := fun o => World.cell?_of_block (a := ⟨b, o, none⟩) (hblk b cur mk hc)
        obtain ⟨c0, c1, c2, c3, c4⟩ := hk' k hkk
        exact ⟨(f _).trans c0, (f _).trans c1, (f _).trans c2, (f _).trans c3, (f _).trans c4⟩
  · rcases h.t with h1 | ⟨b, off, cur, mk, e, hc⟩
    · exact .inl h1
    · exact .inr ⟨b, off, cur, mk, e, (hblk b cur mk hc).trans hc⟩
theorem StR.grown {X Y : World} {g : Nat} {n : Int} {L : List Rg} {a : Option Addr} {D : List Rg} (h : StR X g n L a D) {B s k : Nat} {t : TypeId} {v : Value} {xs : List Value} (hr : X.ownsRow B t s v k xs) (ht : t = 24 ∨ t = 30) (hg : X.grownBy Y v.ownBlock) : StR Y g n L a D :=
  h.keep hg.size fun q hq n1 n2 => hg.block q hq fun e => by
    obtain ⟨_, cur, hc⟩ := rowD_block hr e.symm
    rcases ht with rfl | rfl
    · exact n1 _ _ hc
    · exact n2 _ _ hc
def AtS (X : World) (x : Rst) : Prop := StR X x.g x.n x.L x.a x.D
/-- what the loop keeps -/
structure SyJ (w wx : World) (G9 B : Nat) (x : Rst) (v9 v10 : Value) (S T : List Rst) : Prop where
  j : ScR w wx G9 x.g x.n x.L x.a x.c x.D
  p : wx.ownsRow B 24 1 v9 S.length (rpV S)
  t : wx.ownsRow B 30 2 v10 T.length (rtV T)
  s : ∀ y ∈ S, AtS wx y
  gb : G9 < B
  bs : B ≤ wx.heap.size
theorem SyJ.on {w wx wy : World} {G9 B : Nat} {x : Rst} {v9 v10 : Value} {S T : List Rst} (h : SyJ w wx G9 B x v9 v10 S T) (hb : Below wx.heap.size wx wy) : SyJ w wy G9 B x v9 v10 S T :=
  ⟨h.j.on hb, rowD_below h.p hb (Nat.le_refl _), rowD_below h.t hb (Nat.le_refl _), fun y hy => (h.s y hy).below hb (Nat.le_refl _), h.gb, Nat.le_trans h.bs hb.size⟩
/-- the new state is put where the old one was -/
theorem SyJ.put {w wx : World} {G9 B : Nat} {x : Rst} {v9 v10 : Value} {S T : List Rst} (h : SyJ w wx G9 B x v9 v10 S T) (y : Rst) (hy : AtS wx y) : SyJ w ((wx.setCell ⟨G9, 0, none⟩ (.int .i64 y.n)).setCell ⟨G9, 1, none⟩ (.slice y.a y.D.length y.c)) G9 B y v9 v10 S T := by
  have kp := clsR_put2 h.j.k (.int .i64 y.n) (.slice y.a y.D.length y.c) h.j.b h.j.g
  have hrow : ∀ {t : TypeId} {s k : Nat} {v : Value} {xs : List Value}, wx.ownsRow B t s v k xs → ((wx.setCell ⟨G9, 0, none⟩ (.int .i64 y.n)).setCell ⟨G9, 1, none⟩ (.slice y.a y.D.length y.c)).ownsRow B t s v k xs := fun hr => rowD_on hr fun G hG => by
    have hne : G ≠ G9 := by
      have := (rowD_block hr hG).1
      have := h.gb
      omega
    rw [Below.heap_setCell _ ⟨G9, 1, none⟩ _ G hne, Below.heap_setCell _ ⟨G9, 0, none⟩ _ G hne]
  exact ⟨⟨StR.put2 hy h.j.k _ _, kp.1, kp.2, h.j.g⟩, hrow h.p, hrow h.t, fun z hz => (h.s z hz).put2 h.j.k _ _, h.gb, by rw [setCell_size, setCell_size]; exact h.bs⟩
theorem SyJ.pushp {w wx : World} {G9 B : Nat} {x : Rst} {v9 v10 : Value} {S T : List Rst} (h : SyJ w wx G9 B x v9 v10 S T) {b : Nat} (hc : wx.cell? ⟨b, 0, none⟩ = some (.pointer (some ⟨x.g, 0, none⟩))) (hn : S.length ≤ 1000) :
    ∃ v' W', (Builtin.append_ #[46, 46] 46 #[v9, .slice (some ⟨b, 0, none⟩) 1 1]).run Try.prog wx = .ok v' W' ∧ SyJ w W' G9 B x v' v10 (S ++ [x]) T ∧ ∀ q cs, Cls wx q 30 cs → Cls W' q 30 cs := by
  obtain ⟨v', W', r, o, hg, hb⟩ := push_pr wx B S.length v9 (rpV S) x.g b 46 h.p hc (by omega) h.bs
  have hcl : ∀ q cs t', t' ≠ 24 → Cls wx q t' cs → Cls W' q t' cs := fun q cs t' ht hq => hq.same (hg.block q hq.lt fun e => by
    obtain ⟨_, cur, hcu⟩ := rowD_block h.p e.symm
    unfold Cls at hq
    rw [hq] at hcu
    cases hcu
    exact ht rfl)
  have hk := hcl G9 _ 30 (by decide) h.j.k
  have hbw : Below w.heap.size w W' := h.j.b.trans (hb.mono (Nat.le_trans h.j.g (Nat.le_of_lt h.gb)))
  have hs1 : StR W' x.g x.n x.L x.a x.D := h.j.s.grown h.p (.inl rfl) hg
  refine ⟨v', W', r, ⟨⟨hs1, hk, hbw, h.j.g⟩, ?_, ?_, ?_, h.gb, Nat.le_trans h.bs hg.size⟩, fun q cs => hcl q cs 30 (by decide)⟩
  · rw [List.length_append, rpV_app]; exact o
  · exact rowD_on h.t fun G hG => hg.block G (h.t.lt G hG).2 fun e => by
      obtain ⟨_, c1, k1⟩ := rowD_block h.t hG
      obtain ⟨_, c2, k2⟩ := rowD_block h.p e.symm
      rw [k1] at k2
      cases k2
  · intro y hy
    rcases List.mem_append.1 hy with hy | hy
    · exact StR.grown (h.s y hy) h.p (.inl rfl) hg
    · rw [List.mem_singleton.1 hy]; exact hs1
theorem SyJ.pusht {w wx : World} {G9 B : Nat} {x : Rst} {v9 v10 : Value} {S T : List Rst} (h : SyJ w wx G9 B x v9 v10 S T) {b : Nat} (hc : Cls wx b 30 #[.int .i64 x.n, .slice x.a x.D.length x.c]) (hn : T.length ≤ 1000) :
    ∃ v' W', (Builtin.append_ #[47, 47] 47 #[v10, .slice (some ⟨b, 0, none⟩) 1 1]).run Try.prog wx = .ok v' W' ∧ SyJ w W' G9 B x v9 v' S (T ++ [x]) := by
  obtain ⟨c0, c1⟩ := clsR_two hc
  obtain ⟨v', W', r, o, hg, hb⟩ := push_rr wx B T.length v10 (rtV T) x.n _ b 47 h.t rfl c0 c1 (by omega) h.bs
  have hk : Cls W' G9 30 #[.int .i64 x.n, .slice x.a x.D.length x.c] := h.j.k.same (hg.block G9 h.j.k.lt fun e => by
    have := (rowD_block h.t e.symm).1
    have := h.gb
    omega)
  have hbw : Below w.heap.size w W' := h.j.b.trans (hb.mono (Nat.le_trans h.j.g (Nat.le_of_lt h.gb)))
  have hs1 : StR W' x.g x.n x.L x.a x.D := h.j.s.grown h.t (.inr rfl) hg
  refine ⟨v', W', r, ⟨⟨hs1, hk, hbw, h.j.g⟩, ?_, ?_, ?_, h.gb, Nat.le_trans h.bs hg.size⟩⟩
  · exact rowD_on h.p fun G hG => hg.block G (h.p.lt G hG).2 fun e => by
      obtain ⟨_, c1, k1⟩ := rowD_block h.p hG
      obtain ⟨_, c2, k2⟩ := rowD_block h.t e.symm
      rw [k1] at k2
      cases k2
  · rw [List.length_append, rtV_app]; exact o
  · exact fun y hy => StR.grown (h.s y hy) h.t (.inr rfl) hg
/-- both, one after the other -/
theorem SyJ.both {w wx : World} {G9 B : Nat} {x : Rst} {v9 v10 : Value} {S : List Rst} (h : SyJ w wx G9 B x v9 v10 S S) (i : Nat) (hi : i < S.length) : ∃ gp cp gt ct, v9 = .slice (some ⟨gp, 0, none⟩) S.length cp ∧ v10 = .slice (some ⟨gt, 0, none⟩) S.length ct ∧ (gp < wx.heap.size ∧ gt < wx.heap.size) ∧ wx.cell? ⟨gp, i, none⟩ = some (.pointer (some ⟨(S.getD i rstZ).g, 0, none⟩)) ∧ wx.cell? ⟨gt, i * 2, none⟩ = some (.int .i64 (S.getD i rstZ).n) ∧ wx.cell? ⟨gt, i * 2 + 1, none⟩ = some (.slice (S.getD i rstZ).a (S.getD i rstZ).D.length (S.getD i rstZ).c) ∧ AtS wx (S.getD i rstZ) := by
  have hm : S.getD i rstZ ∈ S := by rw [List.getD_eq_getElem?_getD, List.getElem?_eq_getElem hi]; exact List.getElem_mem hi
  have hp := h.p
  have ht := h.t
  rcases hp.2 with ⟨_, h0⟩ | ⟨gp, cp, _, e1, _⟩
  · omega
  rcases ht.2 with ⟨_, h0⟩ | ⟨gt, ct, _, e2, _⟩
  · omega
  subst e1 e2
  refine ⟨gp, cp, gt, ct, rfl, rfl, ⟨(hp.lt gp rfl).2, (ht.lt gt rfl).2⟩, ?_, ?_, ?_, h.s _ hm⟩
  · rw [(rwk_cell hp i (by omega)).1]
    have := flatR_at rstP 1 (fun _ => rfl) rstZ S i 0 hi (by decide)
    rw [Nat.mul_one, Nat.add_zero] at this
    exact this
  · rw [(rwk_cell ht (i * 2) (by omega)).1]
    have := flatR_at rstL 2 (fun _ => rfl) rstZ S i 0 hi (by decide)
    rw [Nat.add_zero] at this
    exact this
  · rw [(rwk_cell ht (i * 2 + 1) (by omega)).1]
    exact flatR_at rstL 2 (fun _ => rfl) rstZ S i 1 hi (by decide)
end Go.Proofs.Ytifpjdodignflaa
end

section
namespace Go.Proofs.Ytifpjdodignflaa
open Go.ChangeShapes Go.WideShapes Go.ChangeAt Go.RowKit
attribute [local go_sem] Oper.semAt_some

set_option maxRecDepth 100000 in
set_option maxHeartbeats 8000000 in
theorem playSE_at (g : Nat) (n : Int) (L : List Rg) (a : Option Addr) (c : Nat) (D : List Rg) (x : Rg) (ad : Option Addr) (cd : Nat) (d : List Dop) (X : World) (h : StR X g n L a D) (ho : IsO X ad d) (hr : refG n L x ≠ 0) :
    Calls Try.prog 11 #[.pointer (some ⟨g, 0, none⟩), rsV n a D.length c, ocA 0 x ad d.length cd] X (PlQ X) := by
  have HP := hide (PlJ.start X g n L a c D 0 x ad cd d h ho)
  have HO := hide ho
  obtain ⟨xn, xl, xh, xs, xe⟩ := x
  unfold rsV ocA
  dsimp only at HP ⊢
  clear h ho
  obtain ⟨ER, HER⟩ : ∃ ER, Hid (ER = refG n L ⟨xn, xl, xh, xs, xe⟩) := ⟨_, hide rfl⟩
  have e3 : ¬ ER = 0 := by rw [unhide HER]; exact hr
  have e1 : (ER != 0) = true := by simpa using e3
  have e2 : (ER == 0) = false := by simpa using e3
  have HG0 := hide hr
  clear hr
  go_enter Try.func11, Try.ntmps11
  go_upto_region 5 with fail
  generalize (((X.alloc (.cells #[.int .i64 n, .slice a D.length c] 30)).alloc (.cells #[.int .i64 0, .string xn, .int .i64 xl, .int .i64 xh, .int .i64 xs, .int .i64 xe, .slice ad d.length cd] 41)).alloc (.cells #[.int .i64 0, .slice none 0 0] 30)).alloc (.cells #[.int .i64 0, .slice none 0 0] 30) = w0 at *
  generalize X.heap.size + 1 = B1 at *
  generalize B1 + 1 = B2 at *
  generalize B2 + 1 = B3 at *
  obtain ⟨c0, c1, a0, a1, a2, a3, a4, a5, a6⟩ := (unhide HP).cells
  dsimp only at a0 a1 a2 a3 a4 a5 a6
  have HC1 := hide (GSetE_at g n L ⟨xn, xl, xh, xs, xe⟩ w0 (unhide HP).s.m (unhide HG0))
  rw [← unhide HER] at HC1
  unfold rgV at HC1
  dsimp only at HC1
  go_wp2_with fail
  refine (unhide HC1).mono ?_
  rintro y w1 ⟨rfl, x1⟩
  dsimp only
  have HP1 := hide ((unhide HP).on x1)
  clear HC1 HP x1 c0 c1 a0 a1 a2 a3 a4 a5 a6
  obtain ⟨c0, c1, a0, a1, a2, a3, a4, a5, a6⟩ := (unhide HP1).cells
  dsimp only at a0 a1 a2 a3 a4 a5 a6
  obtain ⟨y0, y1, f0, f1⟩ := (unhide HP1).next
  have HC2 := hide (RSetR_all n a c D ⟨xn, xl, xh, xs, xe⟩ w1 (unhide HP1).s.k (unhide HP1).s.len3 ((unhide HP1).s.r.u))
  rw [refG_perm (unhide HP1).s.r, ← unhide HER] at HC2
  unfold rsV rgV at HC2
  dsimp only at HC2
  go_wp2_with fail
  refine (unhide HC2).mono ?_
  rintro y w2 h2
  rcases h2 with ⟨_, rfl, x2⟩ | ⟨h0, _⟩
  rotate_left
  · exact absurd h0 e3
  dsimp only
  have HP2 := hide ((unhide HP1).on x2)
  clear HC2 HP1 x2 c0 c1 a0 a1 a2 a3 a4 a5 a6 y0 y1 f0 f1
  obtain ⟨c0, c1, a0, a1, a2, a3, a4, a5, a6⟩ := (unhide HP2).cells
  dsimp only at a0 a1 a2 a3 a4 a5 a6
  obtain ⟨y0, y1, f0, f1⟩ := (unhide HP2).next
  have HP := hide ((unhide HP2).put3 (unhide HO) (.int .i64 n) (.slice a D.length c))
  obtain ⟨j0, j1, _, _⟩ := (unhide HP).next
  clear HP2
  go_upto_region 24 with fail
  clear j0 j1 y0 y1 f0 f1 c0 c1 a0 a1 a2 a3 a4 a5 a6
  generalize (w2.setCell ⟨B3, 0, none⟩ (.int .i64 n)).setCell ⟨B3, 1, none⟩ (.slice a D.length c) = wz at *
  have HPD := hide ((unhide HP).on (Below.refl wz.heap.size wz).drew)
  have HT := hide (tells_at g n L a c D wz.drew (unhide HPD).s)
  unfold rsV at HT
  clear HP
  refine regionL (S := fun z => z.cell? ⟨X.heap.size, 0, none⟩ = some (.int .i64 n) ∧ z.cell? ⟨X.heap.size, 1, none⟩ = some (.slice a D.length c)) (fun _ => false) (by kernel_rfl) ?_
  generalize wz.drew = zz at *
  refine anyL_take (i := 0) (v := ?ven014) rfl (by kernel_rfl) (by kernel_rfl) (by kernel_rfl) (by kernel_rfl) (fun _ _ _ h => h) (Or.inl ⟨by rfl, ?hen014⟩) (clsR_two (unhide HPD).k0) ?_
  case hen014 => (intro w hSw; (try dsimp only at hSw); go_simp) <;> with_reducible rfl
  simp only [Act.put, List.getElem_toArray, List.getElem_cons_zero, List.setIfInBounds_toArray, List.set_cons_zero, List.set_cons_succ]
  refine anyL_take (i := 1) (v := ?ven015) rfl (by kernel_rfl) (by kernel_rfl) (by kernel_rfl) (by kernel_rfl) (fun _ _ _ h => h) (Or.inl ⟨by rfl, ?hen015⟩) (clsR_two (unhide HPD).k0) ?_
  case hen015 => (intro w hSw; (try dsimp only at hSw); go_simp) <;> with_reducible rfl
  simp only [Act.put, List.getElem_toArray, List.getElem_cons_zero, List.getElem_cons_succ, List.setIfInBounds_toArray, List.set_cons_zero, List.set_cons_succ]
  refine anyL_take (i := 2) (v := ?ven016) rfl (by kernel_rfl) (by kernel_rfl) (by kernel_rfl) (by kernel_rfl) (fun _ _ _ h => h) (Or.inl ⟨by rfl, ?hen016⟩) (clsR_two (unhide HPD).k0) ?_
  case hen016 => (intro w hSw; (try dsimp only at hSw); go_simp) <;> with_reducible rfl
  simp only [Act.put, List.getElem_toArray, List.getElem_cons_zero, List.getElem_cons_succ, List.setIfInBounds_toArray, List.set_cons_zero, List.set_cons_succ]
  refine anyL_take (i := 3) (v := ?ven017) rfl (by kernel_rfl) (by kernel_rfl) (by kernel_rfl) (by kernel_rfl) (fun _ _ _ h => h) (Or.inl ⟨by rfl, ?hen017⟩) (clsR_two (unhide HPD).k0) ?_
  case hen017 => (intro w hSw; (try dsimp only at hSw); go_simp) <;> with_reducible rfl
  simp only [Act.put, List.getElem_toArray, List.getElem_cons_zero, List.getElem_cons_succ, List.setIfInBounds_toArray, List.set_cons_zero, List.set_cons_succ]
  refine anyL_take (i := 4) (v := ?ven018) rfl (by kernel_rfl) (by kernel_rfl) (by kernel_rfl) (by kernel_rfl) (fun _ _ _ h => h) (Or.inl ⟨by rfl, ?hen018⟩) (clsR_two (unhide HPD).k0) ?_
  case hen018 => (intro w hSw; (try dsimp only at hSw); go_simp) <;> with_reducible rfl
  simp only [Act.put, List.getElem_toArray, List.getElem_cons_zero, List.getElem_cons_succ, List.setIfInBounds_toArray, List.set_cons_zero, List.set_cons_succ]
  refine anyL_take (i := 5) (v := ?ven019) rfl (by kernel_rfl) (by kernel_rfl) (by kernel_rfl) (by kernel_rfl) (fun _ _ _ h => h) (Or.inl ⟨by rfl, ?hen019⟩) (clsR_two (unhide HPD).k0) ?_
  case hen019 => (intro w hSw; (try dsimp only at hSw); go_simp) <;> with_reducible rfl
  simp only [Act.put, List.getElem_toArray, List.getElem_cons_zero, List.getElem_cons_succ, List.setIfInBounds_toArray, List.set_cons_zero, List.set_cons_succ]
  refine anyL_take (i := 6) (v := ?ven020) rfl (by kernel_rfl) (by kernel_rfl) (by kernel_rfl) (by kernel_rfl) (fun _ _ _ h => h) (Or.inl ⟨by rfl, ?hen020⟩) (clsR_two (unhide HPD).k0) ?_
  case hen020 => (intro w hSw; (try dsimp only at hSw); go_simp) <;> with_reducible rfl
  simp only [Act.put, List.getElem_toArray, List.getElem_cons_zero, List.getElem_cons_succ, List.setIfInBounds_toArray, List.set_cons_zero, List.set_cons_succ]
  refine anyL_ready (rs := [7]) (by kernel_rfl) (by simp) ?_
  refine AllL.cons rfl (fun K hK => ?_) AllL.nil
  go_simp
  refine (unhide HT).mono ?_
  rintro y v1 ⟨rfl, x1⟩
  have HP1 := hide ((unhide HPD).on x1)
  refine unhide hK _ _ (fun _ => clsR_two (unhide HP1).k0) ?_
  clear hK K HT x1 HPD
  refine anyL_take (i := 8) (v := ?ven021) rfl (by kernel_rfl) (by kernel_rfl) (by kernel_rfl) (by kernel_rfl) (fun _ _ _ h => h) (Or.inl ⟨by rfl, ?hen021⟩) (clsR_two (unhide HP1).k0) ?_
  case hen021 => (intro w hSw; (try dsimp only at hSw); go_simp) <;> with_reducible rfl
  simp only [Act.put, List.getElem_toArray, List.getElem_cons_zero, List.getElem_cons_succ, List.setIfInBounds_toArray, List.set_cons_zero, List.set_cons_succ]
  refine anyL_take (i := 9) (v := ?ven022) rfl (by kernel_rfl) (by kernel_rfl) (by kernel_rfl) (by kernel_rfl) (fun _ _ _ h => h) (Or.inl ⟨by rfl, ?hen022⟩) (clsR_two (unhide HP1).k0) ?_
  case hen022 => (intro w hSw; (try dsimp only at hSw); go_simp) <;> with_reducible rfl
  simp only [Act.put, List.getElem_toArray, List.getElem_cons_zero, List.getElem_cons_succ, List.setIfInBounds_toArray, List.set_cons_zero, List.set_cons_succ]
  refine anyL_ready (rs := [10]) (by kernel_rfl) (by simp) ?_
  refine AllL.cons rfl (fun K hK => ?_) AllL.nil
  have q2 := (unhide HP1).put2 (.int .i64 n) (.slice a D.length c)
  obtain ⟨y0, y1, f0, f1⟩ := (unhide HP1).res
  obtain ⟨r0, r1⟩ := clsR_two q2.1.1
  have HB9 := hide q2.1.2
  have HS9 := hide q2.2.2.2
  have HSy := hide (clsR_two q2.2.1)
  clear q2
  go_simp
  refine unhide hK _ _ (fun _ => unhide HSy) ?_
  clear hK K y0 y1 f0 f1
  refine anyL_take (i := 11) (v := ?ven023) rfl (by kernel_rfl) (by kernel_rfl) (by kernel_rfl) (by kernel_rfl) (fun _ _ _ h => h) (Or.inl ⟨by rfl, ?hen023⟩) (unhide HSy) ?_
  case hen023 => (intro w hSw; (try dsimp only at hSw); go_simp) <;> with_reducible rfl
  simp only [Act.put, List.getElem_toArray, List.getElem_cons_zero, List.getElem_cons_succ, List.setIfInBounds_toArray, List.set_cons_zero, List.set_cons_succ]
  refine anyL_done (by kernel_rfl) ?_ _
  go_wp2_with fail
  refine bodyPost_ret (v := .tuple #[.pointer (some ⟨g, 0, none⟩), .agg #[.int .i64 n, .slice a D.length c], .bool true]) (by simp [results, Try.results11, go_sem, r0, r1]) rfl ?_
  exact ⟨g, n, L, a, c, D, rfl, unhide HS9, unhide HB9⟩
set_option maxRecDepth 100000 in
set_option maxHeartbeats 8000000 in
theorem playSO_at (g : Nat) (n : Int) (L : List Rg) (a : Option Addr) (c : Nat) (D : List Rg) (x : Rg) (ad : Option Addr) (cd : Nat) (d : List Dop) (X : World) (h : StR X g n L a D) (ho : IsO X ad d) (hr : refG n L x = 0) :
    Calls Try.prog 11 #[.pointer (some ⟨g, 0, none⟩), rsV n a D.length c, ocA 0 x ad d.length cd] X (PlQ X) := by
  have HP := hide (PlJ.start X g n L a c D 0 x ad cd d h ho)
  have HO := hide ho
  obtain ⟨xn, xl, xh, xs, xe⟩ := x
  unfold rsV ocA
  dsimp only at HP ⊢
  clear h ho
  have HG0 := hide hr
  clear hr
  go_enter Try.func11, Try.ntmps11
  go_upto_region 5 with fail
  generalize (((X.alloc (.cells #[.int .i64 n, .slice a D.length c] 30)).alloc (.cells #[.int .i64 0, .string xn, .int .i64 xl, .int .i64 xh, .int .i64 xs, .int .i64 xe, .slice ad d.length cd] 41)).alloc (.cells #[.int .i64 0, .slice none 0 0] 30)).alloc (.cells #[.int .i64 0, .slice none 0 0] 30) = w0 at *
  generalize X.heap.size + 1 = B1 at *
  generalize B1 + 1 = B2 at *
  generalize B2 + 1 = B3 at *
  obtain ⟨c0, c1, a0, a1, a2, a3, a4, a5, a6⟩ := (unhide HP).cells
  dsimp only at a0 a1 a2 a3 a4 a5 a6
  have HC1 := hide (GSet_at g n L ⟨xn, xl, xh, xs, xe⟩ w0 (unhide HP).s.m (unhide HG0))
  unfold rgV at HC1
  dsimp only at HC1
  go_wp2_with fail
  refine (unhide HC1).mono ?_
  rintro y w1 ⟨g', rfl, m1, x1⟩
  dsimp only
  have HP1 := hide ((unhide HP).on x1)
  have HM1 := hide m1
  clear HC1 HP x1 m1 c0 c1 a0 a1 a2 a3 a4 a5 a6
  obtain ⟨c0, c1, a0, a1, a2, a3, a4, a5, a6⟩ := (unhide HP1).cells
  dsimp only at a0 a1 a2 a3 a4 a5 a6
  obtain ⟨y0, y1, f0, f1⟩ := (unhide HP1).next
  have HC2 := hide (RSetR_all n a c D ⟨xn, xl, xh, xs, xe⟩ w1 (unhide HP1).s.k (unhide HP1).s.len3 ((unhide HP1).s.r.u))
  rw [refG_perm (unhide HP1).s.r, unhide HG0] at HC2
  unfold rsV rgV at HC2
  dsimp only at HC2
  go_wp2_with fail
  refine (unhide HC2).mono ?_
  rintro y w2 h2
  rcases h2 with ⟨h0, _⟩ | ⟨_, v2, rfl, o2, x2⟩
  · exact absurd rfl h0
  dsimp only
  obtain ⟨av, cv, hvv, _⟩ := rowD_form o2
  subst hvv
  have hrel := (unhide HP1).s.put_l (unhide HG0)
  have hHN : StR w2 g' n (putG ⟨xn, xl, xh, xs, xe⟩ L) av (insG ⟨xn, xl, xh, xs, xe⟩ (delG xn D)) := by
    obtain ⟨_, _, e9, i9, _⟩ := own_isRl o2
    injection e9 with e91 e92 e93
    subst e91
    exact ⟨(unhide HM1).below x2 (Nat.le_refl _), i9, hrel.1, hrel.2.1, hrel.2.2, (unhide HP1).s.q, ownR_typ o2⟩
  have HP2 := hide ((unhide HP1).on x2)
  have HN2 := hide hHN
  clear HC2 HP1 x2 o2 hHN hrel HM1 c0 c1 a0 a1 a2 a3 a4 a5 a6 y0 y1 f0 f1
  generalize (insG ⟨xn, xl, xh, xs, xe⟩ (delG xn D)) = D2 at *
  generalize (putG ⟨xn, xl, xh, xs, xe⟩ L) = L2 at *
  have HN := hide ((unhide HN2).put2 (unhide HP2).k3 (.int .i64 n) (.slice av D2.length cv))
  have HP := hide ((unhide HP2).put3 (unhide HO) (.int .i64 n) (.slice av D2.length cv))
  obtain ⟨c0, c1, a0, a1, a2, a3, a4, a5, a6⟩ := (unhide HP2).cells
  dsimp only at a0 a1 a2 a3 a4 a5 a6
  obtain ⟨y0, y1, f0, f1⟩ := (unhide HP2).next
  obtain ⟨j0, j1, _, _⟩ := (unhide HP).next
  clear HP2 HN2
  go_upto_region 25 with fail
  clear j0 j1 y0 y1 f0 f1 c0 c1 a0 a1 a2 a3 a4 a5 a6
  generalize (w2.setCell ⟨B3, 0, none⟩ (.int .i64 n)).setCell ⟨B3, 1, none⟩ (.slice av D2.length cv) = wz at *
  have HPD := hide ((unhide HP).on (Below.refl wz.heap.size wz).drew)
  have HND := hide ((unhide HN).below (Below.refl wz.heap.size wz).drew (Nat.le_refl _))
  have HT := hide (tells_at g' n L2 av cv D2 wz.drew (unhide HND))
  unfold rsV at HT
  clear HP HN
  refine regionL (S := fun z => z.cell? ⟨B3, 0, none⟩ = some (.int .i64 n) ∧ z.cell? ⟨B3, 1, none⟩ = some (.slice av D2.length cv)) (fun _ => false) (by kernel_rfl) ?_
  generalize wz.drew = zz at *
  refine anyL_take (i := 0) (v := ?ven124) rfl (by kernel_rfl) (by kernel_rfl) (by kernel_rfl) (by kernel_rfl) (fun _ _ _ h => h) (Or.inl ⟨by rfl, ?hen124⟩) (clsR_two (unhide HPD).k3) ?_
  case hen124 => (intro w hSw; (try dsimp only at hSw); go_simp) <;> with_reducible rfl
  simp only [Act.put, List.getElem_toArray, List.getElem_cons_zero, List.setIfInBounds_toArray, List.set_cons_zero, List.set_cons_succ]
  refine anyL_take (i := 1) (v := ?ven125) rfl (by kernel_rfl) (by kernel_rfl) (by kernel_rfl) (by kernel_rfl) (fun _ _ _ h => h) (Or.inl ⟨by rfl, ?hen125⟩) (clsR_two (unhide HPD).k3) ?_
  case hen125 => (intro w hSw; (try dsimp only at hSw); go_simp) <;> with_reducible rfl
  simp only [Act.put, List.getElem_toArray, List.getElem_cons_zero, List.getElem_cons_succ, List.setIfInBounds_toArray, List.set_cons_zero, List.set_cons_succ]
  refine anyL_take (i := 2) (v := ?ven126) rfl (by kernel_rfl) (by kernel_rfl) (by kernel_rfl) (by kernel_rfl) (fun _ _ _ h => h) (Or.inl ⟨by rfl, ?hen126⟩) (clsR_two (unhide HPD).k3) ?_
  case hen126 => (intro w hSw; (try dsimp only at hSw); go_simp) <;> with_reducible rfl
  simp only [Act.put, List.getElem_toArray, List.getElem_cons_zero, List.getElem_cons_succ, List.setIfInBounds_toArray, List.set_cons_zero, List.set_cons_succ]
  refine anyL_take (i := 3) (v := ?ven127) rfl (by kernel_rfl) (by kernel_rfl) (by kernel_rfl) (by kernel_rfl) (fun _ _ _ h => h) (Or.inl ⟨by rfl, ?hen127⟩) (clsR_two (unhide HPD).k3) ?_
  case hen127 => (intro w hSw; (try dsimp only at hSw); go_simp) <;> with_reducible rfl
  simp only [Act.put, List.getElem_toArray, List.getElem_cons_zero, List.getElem_cons_succ, List.setIfInBounds_toArray, List.set_cons_zero, List.set_cons_succ]
  refine anyL_take (i := 4) (v := ?ven128) rfl (by kernel_rfl) (by kernel_rfl) (by kernel_rfl) (by kernel_rfl) (fun _ _ _ h => h) (Or.inl ⟨by rfl, ?hen128⟩) (clsR_two (unhide HPD).k3) ?_
  case hen128 => (intro w hSw; (try dsimp only at hSw); go_simp) <;> with_reducible rfl
  simp only [Act.put, List.getElem_toArray, List.getElem_cons_zero, List.getElem_cons_succ, List.setIfInBounds_toArray, List.set_cons_zero, List.set_cons_succ]
  refine anyL_take (i := 5) (v := ?ven129) rfl (by kernel_rfl) (by kernel_rfl) (by kernel_rfl) (by kernel_rfl) (fun _ _ _ h => h) (Or.inl ⟨by rfl, ?hen129⟩) (clsR_two (unhide HPD).k3) ?_
  case hen129 => (intro w hSw; (try dsimp only at hSw); go_simp) <;> with_reducible rfl
  simp only [Act.put, List.getElem_toArray, List.getElem_cons_zero, List.getElem_cons_succ, List.setIfInBounds_toArray, List.set_cons_zero, List.set_cons_succ]
  refine anyL_take (i := 6) (v := ?ven130) rfl (by kernel_rfl) (by kernel_rfl) (by kernel_rfl) (by kernel_rfl) (fun _ _ _ h => h) (Or.inl ⟨by rfl, ?hen130⟩) (clsR_two (unhide HPD).k3) ?_
  case hen130 => (intro w hSw; (try dsimp only at hSw); go_simp) <;> with_reducible rfl
  simp only [Act.put, List.getElem_toArray, List.getElem_cons_zero, List.getElem_cons_succ, List.setIfInBounds_toArray, List.set_cons_zero, List.set_cons_succ]
  refine anyL_ready (rs := [7]) (by kernel_rfl) (by simp) ?_
  refine AllL.cons rfl (fun K hK => ?_) AllL.nil
  go_simp
  refine (unhide HT).mono ?_
  rintro y v1 ⟨rfl, x1⟩
  have HP1 := hide ((unhide HPD).on x1)
  have HN1 := hide ((unhide HND).below x1 (Nat.le_refl _))
  refine unhide hK _ _ (fun _ => clsR_two (unhide HP1).k3) ?_
  clear hK K HT x1 HPD HND
  refine anyL_take (i := 8) (v := ?ven131) rfl (by kernel_rfl) (by kernel_rfl) (by kernel_rfl) (by kernel_rfl) (fun _ _ _ h => h) (Or.inl ⟨by rfl, ?hen131⟩) (clsR_two (unhide HP1).k3) ?_
  case hen131 => (intro w hSw; (try dsimp only at hSw); go_simp) <;> with_reducible rfl
  simp only [Act.put, List.getElem_toArray, List.getElem_cons_zero, List.getElem_cons_succ, List.setIfInBounds_toArray, List.set_cons_zero, List.set_cons_succ]
  refine anyL_take (i := 9) (v := ?ven132) rfl (by kernel_rfl) (by kernel_rfl) (by kernel_rfl) (by kernel_rfl) (fun _ _ _ h => h) (Or.inl ⟨by rfl, ?hen132⟩) (clsR_two (unhide HP1).k3) ?_
  case hen132 => (intro w hSw; (try dsimp only at hSw); go_simp) <;> with_reducible rfl
  simp only [Act.put, List.getElem_toArray, List.getElem_cons_zero, List.getElem_cons_succ, List.setIfInBounds_toArray, List.set_cons_zero, List.set_cons_succ]
  refine anyL_ready (rs := [10]) (by kernel_rfl) (by simp) ?_
  refine AllL.cons rfl (fun K hK => ?_) AllL.nil
  have q2 := (unhide HP1).put2 (.int .i64 n) (.slice av D2.length cv)
  obtain ⟨y0, y1, f0, f1⟩ := (unhide HP1).res
  obtain ⟨r0, r1⟩ := clsR_two q2.1.1
  have HB9 := hide q2.1.2
  have HS9 := hide ((unhide HN1).put2 (unhide HP1).k2 (.int .i64 n) (.slice av D2.length cv))
  have HSy := hide (clsR_two q2.2.2.1)
  clear q2
  go_simp
  refine unhide hK _ _ (fun _ => unhide HSy) ?_
  clear hK K y0 y1 f0 f1
  refine anyL_take (i := 11) (v := ?ven133) rfl (by kernel_rfl) (by kernel_rfl) (by kernel_rfl) (by kernel_rfl) (fun _ _ _ h => h) (Or.inl ⟨by rfl, ?hen133⟩) (unhide HSy) ?_
  case hen133 => (intro w hSw; (try dsimp only at hSw); go_simp) <;> with_reducible rfl
  simp only [Act.put, List.getElem_toArray, List.getElem_cons_zero, List.getElem_cons_succ, List.setIfInBounds_toArray, List.set_cons_zero, List.set_cons_succ]
  refine anyL_done (by kernel_rfl) ?_ _
  go_wp2_with fail
  refine bodyPost_ret (v := .tuple #[.pointer (some ⟨g', 0, none⟩), .agg #[.int .i64 n, .slice av D2.length cv], .bool true]) (by simp [results, Try.results11, go_sem, r0, r1]) rfl ?_
  exact ⟨g', n, L2, av, cv, D2, rfl, unhide HS9, unhide HB9⟩
end Go.Proofs.Ytifpjdodignflaa
end
