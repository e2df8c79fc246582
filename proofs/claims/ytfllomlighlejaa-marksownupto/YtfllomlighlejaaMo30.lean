/- Layer 13: Changes. · Layer 13: the document's Changes. · Layer 13: the inverter, Invert. · Layer 13: Invert. · Layer 13, the document's Apply. · Layer 13, the document's Invert. · Layer 13: the law's fixed fact (the document's examples), its copies. · Layer 13: the law's fixed fact. · Layer 13: the law's same and bytes, told by what lies there. · Layer 13: DeltaApply. · Layer 13: DeltaApply's walk. -/
import Derived.Test.YtfllomlighlejaaMo29
import Derived.Test.YtfllomlighlejaaMo26
import Derived.Test.YtfllomlighlejaaMo28
import Derived.Lib.SlBytesConst

section
namespace Go.Proofs.Ytfllomlighlejaa
open Go.ChangeShapes Go.WideShapes Go.ChangeAt Go.RowKit
attribute [local go_sem] Oper.semAt_some

theorem upL_len (f : Dop → Dop) (l : List Dop) : (upL f l).length = l.length := by
  by_cases h : l = []
  · subst h; rfl
  · obtain ⟨e, x, rfl⟩ := list_snoc h; rw [upL_snoc]; simp
theorem her_len (m : Nat) (cs : List Dop) : (herL m cs).length ≤ cs.length + 1 := by unfold herL; split <;> simp
theorem stL_len (s : Nat × List Dop) (o : Dop) : (stL s o).2.length ≤ s.2.length + 1 := by
  unfold stL
  split
  · simp
  · split
    · simp only [upL_len]; exact her_len _ _
    · simp only [upL_len]; exact her_len _ _
theorem runL_len (d : List Dop) : ∀ k, k ≤ d.length → (runL (d.take k)).2.length ≤ k
  | 0, _ => by simp [runL]
  | k + 1, hk => by
    rw [runL_take d (by omega)]
    have := stL_len (runL (d.take k)) (d.getD k opZ)
    have := runL_len d k (by omega)
    omega
theorem runL_at {d : List Dop} (hv : valB d = true) : ∀ k, k ≤ d.length → (runL (d.take k)).1 = frD (d.take k)
  | 0, _ => by simp [runL, frD]
  | k + 1, hk => by
    rw [runL_take d (by omega), frD_take d (by omega), ← runL_at hv k (by omega)]
    have hx := valB_op hv (getD_memD (d := d) (k := k) (by omega))
    generalize d.getD k opZ = x at *
    unfold stL frN
    rcases hx with ⟨h1 | h1, _, _⟩ | ⟨h1, _, _⟩ <;> simp [h1]
theorem val_len {d : List Dop} (hv : valB d = true) : d.length ≤ 536870912 := by
  have h1 := can_len (d := d) (fun o ho => by
    rcases valB_op hv ho with ⟨h1, h2, h3⟩ | ⟨h1, h2, h3⟩
    · exact .inl ⟨h1, h2, h3⟩
    · exact .inr ⟨h1, h2, h3⟩)
  have h2 := dA_len (valB_k hv)
  have h3 := (valB_nn hv).2
  omega
set_option maxRecDepth 100000 in
theorem each_l (a : Option Addr) (c B g : Nat) (d : List Dop) (X : World) (hO : ∀ Y, Below B X Y → IsO Y a d) (v : Value) (hX : IsLv B X X g 0 v []) (hl : d.length ≤ 4611686018427387904) (hv : valB d = true) :
    Calls Try.prog 38 #[.slice a d.length c, .func (.func 39) #[.pointer (some ⟨g, 0, none⟩)] #[], .func (.func 40) #[.pointer (some ⟨g, 0, none⟩)] #[], .func (.func 41) #[.pointer (some ⟨g, 0, none⟩)] #[]] X
      fun y X' => y = .returned (.tuple #[]) ∧ ∃ v', IsLv B X X' g (runL d).1 v' (runL d).2 := by
  have hz := (valB_nn hv).2
  have hdl := val_len hv
  have := each_at a c B d X 39 40 41 (.pointer (some ⟨g, 0, none⟩))
    (fun k Y => ∃ v', IsLv B X Y g (runL (d.take k)).1 v' (runL (d.take k)).2)
    (enters_of Try.func39 (by kernel_rfl) rfl) (enters_of Try.func40 (by kernel_rfl) rfl) (enters_of Try.func41 (by kernel_rfl) rfl)
    hO (fun k Y ⟨_, hY⟩ => hY.d) (fun k Y o ⟨v', hY⟩ => ⟨v', hY.on ((Below.refl _ _).alloc (Nat.le_refl _) o)⟩) ⟨v, hX⟩ hl
    (fun k Y hlt h1 ⟨v', hY⟩ => by
      have hx := valB_op hv (getD_memD hlt)
      have e0 := runL_at hv k (by omega)
      have e1 := frD_take d hlt
      have e3 := frD_le d (k + 1)
      rw [runL_take d hlt]
      generalize runL (d.take k) = s at *
      generalize d.getD k opZ = x at *
      obtain ⟨xk, xn, xt⟩ := x
      dsimp only at hx h1
      subst h1
      rcases hx with ⟨_, hn, rfl⟩ | ⟨h2, _⟩
      · obtain ⟨m, rfl⟩ : ∃ m : Nat, xn = (m : Int) := ⟨xn.toNat, by omega⟩
        simp [frN] at e1
        refine (lkeep_at B X Y g s.1 m v' s.2 hY (by omega)).mono fun y Z ⟨e, hZ⟩ => ⟨e, v', ?_⟩
        simp only [stL, if_true, Int.toNat_natCast]
        exact hZ
      · omega)
    (fun k Y hlt h1 ⟨v', hY⟩ => by
      have hln := runL_len d k (by omega)
      have hx := valB_op hv (getD_memD hlt)
      rw [runL_take d hlt]
      generalize runL (d.take k) = s at *
      generalize d.getD k opZ = x at *
      obtain ⟨xk, xn, xt⟩ := x
      dsimp only at hx h1
      subst h1
      refine (lput_at B X Y g s.1 v' s.2 xt hY (by omega)).mono fun y Z ⟨e, v2, hZ⟩ => ⟨e, v2, ?_⟩
      simp only [stL, show ¬ ((2 : Int) = 1) by decide, if_false, if_true]
      exact hZ)
    (fun k Y hlt h1 ⟨v', hY⟩ => by
      have hln := runL_len d k (by omega)
      have hx := valB_op hv (getD_memD hlt)
      have e0 := runL_at hv k (by omega)
      have e1 := frD_take d hlt
      have e3 := frD_le d (k + 1)
      rw [runL_take d hlt]
      generalize runL (d.take k) = s at *
      generalize d.getD k opZ = x at *
      obtain ⟨xk, xn, xt⟩ := x
      dsimp only at hx h1
      subst h1
      rcases hx with ⟨_, hn, rfl⟩ | ⟨h2, _⟩
      · obtain ⟨m, rfl⟩ : ∃ m : Nat, xn = (m : Int) := ⟨xn.toNat, by omega⟩
        simp [frN] at e1
        refine (ldrop_at B X Y g s.1 m v' s.2 hY (by omega) (by omega)).mono fun y Z ⟨e, v2, hZ⟩ => ⟨e, v2, ?_⟩
        simp only [stL, show ¬ ((3 : Int) = 1) by decide, show ¬ ((3 : Int) = 2) by decide, if_false, Int.toNat_natCast]
        exact hZ
      · omega)
    (fun k Y hlt h1 h2 h3 _ => by rcases valB_k hv _ (getD_memD hlt) with h | h | h <;> contradiction)
  rw [List.take_length] at this
  exact this
/-- what Changes answers -/
def chD (d : List Dop) : List Dop × Int := if valB d then ((runL d).2, 0) else ([], 130)
set_option maxRecDepth 100000 in
set_option maxHeartbeats 1000000 in
theorem Changes_at (a : Option Addr) (c : Nat) (d : List Dop) (w : World) (h : IsO w a d) (hl : d.length ≤ 4611686018427387904) :
    Calls Try.prog 25 #[.slice a d.length c] w fun y w' => ∃ v, y = .returned (.tuple #[v, .int .i64 (chD d).2]) ∧ w'.ownsRow w.heap.size 92 3 v (chD d).1.length (opsV (chD d).1) ∧ Below w.heap.size w w' := by
  have HV := hide (Valid_atD a c d w h hl)
  cases hv : valB d with
  | false =>
    rw [hv] at HV
    unfold chD
    rw [hv]
    simp only [Bool.false_eq_true, if_false]
    clear hv h hl
    go_enter Try.func25, Try.ntmps25
    go_wp2_with fail
    refine (unhide HV).mono ?_
    rintro y w1 ⟨rfl, x1⟩
    dsimp only
    clear HV
    go_wp2_with fail
    refine bodyPost_ret (results_tmp2 rfl _ _ _) rfl ⟨.slice none 0 0, rfl, World.ownsRow_nil _ _ _ _, x1⟩
  | true =>
    rw [hv] at HV
    unfold chD
    rw [hv]
    simp only [if_true]
    go_enter Try.func25, Try.ntmps25
    go_wp2_with fail
    refine (unhide HV).mono ?_
    rintro y w1 ⟨rfl, x1⟩
    dsimp only
    have hW : IsLv w.heap.size (w1.alloc (.cells #[.int .i64 0, .slice none 0 0] 87)) (w1.alloc (.cells #[.int .i64 0, .slice none 0 0] 87)) w1.heap.size 0 (.slice none 0 0) [] :=
      ⟨Cls.new _ _ _, World.ownsRow_nil _ _ _ _, Below.refl _ _, x1.size, by have := x1.size; simp; omega⟩
    have HE := hide (each_l a c w.heap.size w1.heap.size d _ (fun Y hY => h.below ((x1.alloc x1.size _).trans hY) (Nat.le_refl _)) _ hW hl hv)
    have HX := hide (x1.alloc x1.size (.cells #[.int .i64 0, .slice none 0 0] 87))
    clear HV hW h hl hv x1
    go_upto_region 4 with fail
    generalize w1.alloc (.cells #[.int .i64 0, .slice none 0 0] 87) = w4 at *
    generalize w1.heap.size = g at *
    go_wp2_with fail
    refine (unhide HE).mono ?_
    rintro y w5 ⟨rfl, v5, h5⟩
    dsimp only
    have e1 : w5.cell? ⟨g, 1, none⟩ = some v5 := h5.a.cell 1
    have HOw := hide h5.r
    have HXX := hide ((unhide HX).trans h5.d)
    clear HE h5 HX
    go_wp2_with fail
    refine bodyPost_ret (results_tmp2 rfl _ _ _) rfl ⟨_, rfl, unhide HOw, unhide HXX⟩

end Go.Proofs.Ytfllomlighlejaa
end

section
namespace Go.Proofs.Ytfllomlighlejaa
open Go.ChangeShapes Go.WideShapes Go.ChangeAt Go.RowKit
attribute [local go_sem] Oper.semAt_some

structure ChI (d : List Dop) (k f : Nat) (op : Bool) (v : Value) (cs : List Dop) (w X : World) : Prop where
  ef : f = frD (d.take k)
  l : cs = (runL (d.take k)).2
  p : op = decide (cs.getLast?.map Dop.n = some (f : Int))
  n : ∀ x, cs.getLast? = some x → x.n ≤ (f : Int)
  o : X.ownsRow w.heap.size 92 3 v cs.length (opsV cs)
  d : Below w.heap.size w X
theorem ChI.open {d : List Dop} {k f : Nat} {v : Value} {cs : List Dop} {w X : World} (h : ChI d k f true v cs w X) : ∃ e x, cs = e ++ [x] ∧ x.n = (f : Int) ∧ herL f cs = e ++ [x] := by
  have hp := of_decide_eq_true h.p.symm
  obtain ⟨e, x, rfl⟩ := list_snoc (d := cs) (fun h0 => by rw [h0] at hp; simp at hp)
  exact ⟨e, x, rfl, by simpa using hp, by unfold herL; rw [if_pos hp]⟩
theorem ChI.shut {d : List Dop} {k f : Nat} {v : Value} {cs : List Dop} {w X : World} (h : ChI d k f false v cs w X) : herL f cs = cs ++ [⟨f, f, []⟩] := by
  have hp := of_decide_eq_false h.p.symm
  unfold herL; rw [if_neg hp]
theorem ChI.keep {d : List Dop} {k f m : Nat} {op : Bool} {v : Value} {cs : List Dop} {w X : World} (h : ChI d k f op v cs w X) (hk : k < d.length) (hx : d.getD k opZ = ⟨1, (m : Int), []⟩) (hm : 1 ≤ m) : ChI d (k + 1) (f + m) false v cs w X := by
  refine ⟨?_, ?_, ?_, ?_, h.o, h.d⟩
  · rw [frD_take d hk, hx, ← h.ef]; simp [frN]
  · rw [runL_take d hk, hx, h.l]; simp [stL]
  · symm
    refine decide_eq_false fun e => ?_
    cases hc : cs.getLast? with
    | none => rw [hc] at e; simp at e
    | some x => rw [hc] at e; have := h.n x hc; simp at e; omega
  · intro x hx'
    have := h.n x hx'
    omega
theorem ChI.put {d : List Dop} {k f : Nat} {t : List Int} {op : Bool} {v v' : Value} {cs e : List Dop} {x : Dop} {w X Y : World} (h : ChI d k f op v cs w X) (hk : k < d.length) (hx : d.getD k opZ = ⟨2, 0, t⟩) (hH : herL f cs = e ++ [x]) (hn : x.n = (f : Int))
    (ho : Y.ownsRow w.heap.size 92 3 v' (e ++ [(⟨x.k, x.n, t⟩ : Dop)]).length (opsV (e ++ [⟨x.k, x.n, t⟩]))) (hb : Below w.heap.size w Y) (hv : valB d = true) : ChI d (k + 1) f true v' (e ++ [⟨x.k, x.n, t⟩]) w Y := by
  have e1 : (runL (d.take k)).1 = f := (runL_at hv k (by omega)).trans h.ef.symm
  refine ⟨?_, ?_, ?_, ?_, ho, hb⟩
  · rw [frD_take d hk, hx, ← h.ef]; simp [frN]
  · rw [runL_take d hk, hx]; simp only [stL, show ¬ ((2 : Int) = 1) by decide, if_false, if_true]; rw [e1, ← h.l, hH, upL_snoc]
  · simp [hn]
  · intro y hy; simp at hy; subst hy; dsimp only; omega
theorem ChI.drop {d : List Dop} {k f m : Nat} {op : Bool} {v v' : Value} {cs e : List Dop} {x : Dop} {w X Y : World} (h : ChI d k f op v cs w X) (hk : k < d.length) (hx : d.getD k opZ = ⟨3, (m : Int), []⟩) (hH : herL f cs = e ++ [x]) (hn : x.n = (f : Int))
    (ho : Y.ownsRow w.heap.size 92 3 v' (e ++ [(⟨x.k, ((f + m : Nat) : Int), x.t⟩ : Dop)]).length (opsV (e ++ [⟨x.k, ((f + m : Nat) : Int), x.t⟩]))) (hb : Below w.heap.size w Y) (hv : valB d = true) : ChI d (k + 1) (f + m) true v' (e ++ [⟨x.k, ((f + m : Nat) : Int), x.t⟩]) w Y := by
  have e1 : (runL (d.take k)).1 = f := (runL_at hv k (by omega)).trans h.ef.symm
  refine ⟨?_, ?_, ?_, ?_, ho, hb⟩
  · rw [frD_take d hk, hx, ← h.ef]; simp [frN]
  · rw [runL_take d hk, hx]; simp only [stL, show ¬ ((3 : Int) = 1) by decide, show ¬ ((3 : Int) = 2) by decide, if_false]; rw [e1, ← h.l, hH, upL_snoc]; simp [hn]
  · simp
  · intro y hy; simp at hy; subst hy; dsimp only; omega
end Go.Proofs.Ytfllomlighlejaa
end

section
namespace Go.Proofs.Ytfllomlighlejaa
open Go.ChangeShapes Go.WideShapes Go.ChangeAt Go.RowKit
attribute [local go_sem] Oper.semAt_some

/-- the cell ahead of the builder's -/
def rV (v : Value) : Nat → Option Value := fun j => if j = 0 then some v else none
theorem feed_snoc (e : List Dop) (x : Dop) : feedA b0 (dA (e ++ [x])) = (feedA b0 (dA e)).op x := by
  rw [dA_app, feedA_app, op_atoms]; simp [dA]
end Go.Proofs.Ytfllomlighlejaa
end

section
namespace Go.Proofs.Ytfllomlighlejaa
open Go.ChangeShapes Go.WideShapes Go.ChangeAt Go.RowKit
attribute [local go_sem] Oper.semAt_some

/-- what waits, and what is fed, behind one operation more -/
def stV (s : List Int × List Dop) (o : Dop) : List Int × List Dop := if o.k = 1 then (s.1.drop o.n.toNat, s.2 ++ [⟨1, o.n, []⟩]) else if o.k = 2 then (s.1, s.2 ++ [⟨3, (o.t.length : Int), []⟩]) else (s.1.drop o.n.toNat, s.2 ++ [⟨2, 0, s.1.take o.n.toNat⟩])
def runV (b : List Int) (d : List Dop) : List Int × List Dop := d.foldl stV (b, [])
def ivD (b : List Int) (d : List Dop) : List Dop := (runV b d).2
theorem runV_take (b : List Int) (d : List Dop) {k : Nat} (hk : k < d.length) : runV b (d.take (k + 1)) = stV (runV b (d.take k)) (d.getD k opZ) := by
  unfold runV
  rw [List.take_add_one, List.getElem?_eq_getElem hk, Option.toList_some, List.foldl_append]
  simp [List.getD_eq_getElem?_getD, List.getElem?_eq_getElem hk]
theorem dA_snoc (e : List Dop) (x : Dop) : dA (e ++ [x]) = dA e ++ opA x := by rw [dA_app]; simp [dA]
theorem runV_len {b : List Int} {d : List Dop} (hv : valB d = true) (hf : frD d = b.length) : ∀ k, k ≤ d.length → (runV b (d.take k)).1.length + frD (d.take k) = b.length ∧ (dA (runV b (d.take k)).2).length ≤ frD (d.take k) + toD (d.take k)
  | 0, _ => by simp [runV, frD, toD, dA]
  | k + 1, hk => by
    have ih := runV_len hv hf k (by omega)
    have hx := valB_op hv (getD_memD (d := d) (k := k) (by omega))
    have e1 := frD_take d (k := k) (by omega)
    have e2 := toD_take d (k := k) (by omega)
    have e3 := (frD_le d (k + 1)).1
    rw [runV_take b d (by omega)]
    generalize runV b (d.take k) = s at *
    generalize d.getD k opZ = x at *
    obtain ⟨xk, xn, xt⟩ := x
    dsimp only at hx
    rcases hx with ⟨rfl | rfl, hn, rfl⟩ | ⟨rfl, rfl, hn⟩
    · simp [stV, frN, toN, dA_snoc, opA] at e1 e2 ⊢; omega
    · simp [stV, frN, toN, dA_snoc, opA] at e1 e2 ⊢; omega
    · simp [stV, frN, toN, dA_snoc, opA] at e1 e2 ⊢; omega
def invD (b : List Int) (d : List Dop) : List Dop := if fitE d b.length = 0 then canA (dA (ivD b d)) else []
end Go.Proofs.Ytfllomlighlejaa
end

section
namespace Go.Proofs.Ytfllomlighlejaa
open Go.ChangeShapes Go.WideShapes Go.ChangeAt Go.RowKit
attribute [local go_sem] Oper.semAt_some

theorem runW_rest {d : List Dop} (b : List Int) (hv : valB d = true) : ∀ k, k ≤ d.length → (runW b (d.take k)).1 = b.drop (frD (d.take k))
  | 0, _ => by simp [runW, frD]
  | k + 1, hk => by
    have ih := runW_rest b hv k (by omega)
    have hx := valB_op hv (getD_memD (d := d) (k := k) (by omega))
    have e1 := frD_take d (k := k) (by omega)
    rw [runW_take b d (by omega), e1]
    generalize runW b (d.take k) = s at *
    generalize d.getD k opZ = x at *
    obtain ⟨xk, xn, xt⟩ := x
    dsimp only at hx
    rcases hx with ⟨rfl | rfl, hn, rfl⟩ | ⟨rfl, rfl, hn⟩ <;> simp [stW, frN, ih]
theorem runV_rest {d : List Dop} (b : List Int) (hv : valB d = true) : ∀ k, k ≤ d.length → (runV b (d.take k)).1 = b.drop (frD (d.take k))
  | 0, _ => by simp [runV, frD]
  | k + 1, hk => by
    have ih := runV_rest b hv k (by omega)
    have hx := valB_op hv (getD_memD (d := d) (k := k) (by omega))
    have e1 := frD_take d (k := k) (by omega)
    rw [runV_take b d (by omega), e1]
    generalize runV b (d.take k) = s at *
    generalize d.getD k opZ = x at *
    obtain ⟨xk, xn, xt⟩ := x
    dsimp only at hx
    rcases hx with ⟨rfl | rfl, hn, rfl⟩ | ⟨rfl, rfl, hn⟩ <;> simp [stV, frN, ih]
theorem run_moreV (w : World) (B : Nat) (v : Value) (l m : List Int) (a0 : Option Addr) (cap : Nat) (ty : TypeId) (h : Own w B v l) (hm : IsB w a0 cap m) (h0 : 0 < m.length) (hB : B ≤ w.heap.size) (hn : l.length + m.length ≤ 140737488355328) :
    ∃ v' w', (Builtin.append_ #[120, 120] ty #[v, .slice a0 m.length cap]).run Try.prog w = .ok v' w' ∧ Own w' B v' (l ++ m) ∧ Below B w w' := by
  obtain ⟨i, hi, hz, hs, hby⟩ := info_u8
  rcases hm.2.2.1 with h3 | ⟨g0, off, rfl, hL⟩
  · rw [h3] at h0; cases h0
  obtain ⟨g', c', w', hr, ho, hg, hat, hlt⟩ := run_append_lies (P := Try.prog) w 120 ty B 5 i (.int .u8 0) 1 1 Try.underlying120 hi hz hs hby rfl (by decide)
    v l.length (l.map (Value.int .u8)) h ⟨g0, off, none⟩ m.length cap (m.map (Value.int .u8)) (by simp) (src_cells hL) (src_some _ g0 off cap m hL).one h0 (by unfold maxLen; omega) (by omega) hB (w.heap.size) (by omega)
  refine ⟨_, w', hr, ?_, (Below.refl B w).grown hg hB (fun k e => (World.ownsRow.lt h k e).1)⟩
  unfold Own
  simpa using ho
theorem run_strV (w : World) (B : Nat) (v : Value) (l t : List Int) (ty : TypeId) (h : Own w B v l) (ht : ∀ x ∈ t, 0 ≤ x ∧ x ≤ 255) (hB : B ≤ w.heap.size) (hn : l.length + t.length ≤ 140737488355328) :
    ∃ v' w', (Builtin.append_ #[120, 9] ty #[v, .string (strOfNums t)]).run Try.prog w = .ok v' w' ∧ Own w' B v' (l ++ t) ∧ Below B w w' := by
  obtain ⟨i, hi, hz, hs, hby⟩ := info_u8
  have hsz := strOfNums_size t
  obtain ⟨v', w', hr, ho, hg, _⟩ := Lib.run_append_own_string (P := Try.prog) w B 120 9 ty 5 i Try.underlying120 Try.underlying9 hi hz hs hby _ l.length _ h (strOfNums t) (by unfold maxLen; omega) (by omega) hB
  rw [hsz, strCells_nums ht] at ho
  exact ⟨v', w', hr, by unfold Own; simpa using ho, (Below.refl B w).grown hg hB (fun k e => (World.ownsRow.lt h k e).1)⟩
/-- the state of the document's loop -/
structure ApI (b : List Int) (d : List Dop) (k f : Nat) (v : Value) (w X : World) : Prop where
  ef : f = frD (d.take k)
  z : f ≤ 268435456
  o : Own X w.heap.size v (runW b (d.take k)).2
  d : Below w.heap.size w X
end Go.Proofs.Ytfllomlighlejaa
end

section
namespace Go.Proofs.Ytfllomlighlejaa
open Go.ChangeShapes Go.WideShapes Go.ChangeAt Go.RowKit
attribute [local go_sem] Oper.semAt_some

/-- the state of the document's loop -/
structure InI (b : List Int) (d : List Dop) (k f : Nat) (M : List Dop) (a : Option Addr) (w X : World) : Prop where
  ef : f = frD (d.take k)
  l : M = (feedA b0 (dA (runV b (d.take k)).2)).fin
  o : IsO X a M
  d : Below w.heap.size w X
/-- one more, as add says -/
theorem add_snoc (e : List Dop) {x : Dop} (hk : x.k = 1 ∨ x.k = 2 ∨ x.k = 3) (hn : x.k ≠ 2 → 0 ≤ x.n) : addD (feedA b0 (dA e)).fin x.k (if x.k = 2 then 0 else x.n) (if x.k = 2 then x.t else []) = (feedA b0 (dA (e ++ [x]))).fin := by
  rw [add_op hk hn, dA_snoc]
end Go.Proofs.Ytfllomlighlejaa
end

section
namespace Go.Proofs.Ytfllomlighlejaa
open Go.ChangeShapes Go.WideShapes Go.ChangeAt Go.RowKit
def exD : List Dop := [⟨1, 2, []⟩, ⟨2, 0, [120, 121]⟩, ⟨3, 1, []⟩, ⟨1, 3, []⟩]
def exB : List Int := [97, 98, 99, 100, 101, 102]
def exI : List Dop := [⟨1, 2, []⟩, ⟨2, 0, [99]⟩, ⟨3, 2, []⟩, ⟨1, 3, []⟩]
theorem ex_val : valB exD = true ∧ frD exD = 6 ∧ toD exD = 7 := by decide
theorem ex_tb : ∀ o ∈ exD, TbD o := by
  show ∀ o ∈ exD, ∀ x ∈ o.t, 0 ≤ x ∧ x ≤ 255
  decide
theorem ex_ap : apD exB exD = [97, 98, 120, 121, 100, 101, 102] := by decide
theorem ex_fit : fitE exD exB.length = 0 := by unfold fitE; rw [ex_val.1, ex_val.2.1]; decide
theorem ex_inv : invD exB exD = exI := by unfold invD; rw [if_pos ex_fit]; decide
theorem ex_isO (w : World) : IsO (w.alloc (.cells #[.int .i64 1, .int .i64 2, .string ⟨#[]⟩, .int .i64 2, .int .i64 0, .string ⟨#[120, 121]⟩, .int .i64 3, .int .i64 1, .string ⟨#[]⟩, .int .i64 1, .int .i64 3, .string ⟨#[]⟩] 50)) (some ⟨w.heap.size, 0, none⟩) exD := by
  refine Or.inr ⟨_, _, rfl, by simp, fun k hk => ?_⟩
  have f : ∀ j, (w.alloc (.cells #[.int .i64 1, .int .i64 2, .string ⟨#[]⟩, .int .i64 2, .int .i64 0, .string ⟨#[120, 121]⟩, .int .i64 3, .int .i64 1, .string ⟨#[]⟩, .int .i64 1, .int .i64 3, .string ⟨#[]⟩] 50)).cell? ⟨w.heap.size, j, none⟩ = _ := fun j => World.cell?_alloc_mark w _ _ (0, 0) j
  have hk' : k = 0 ∨ k = 1 ∨ k = 2 ∨ k = 3 := by simp [exD] at hk; omega
  rcases hk' with rfl | rfl | rfl | rfl
  all_goals exact ⟨(f _).trans rfl, (f _).trans rfl, (f _).trans rfl⟩
theorem ex_isB (w : World) (X : World) (h : Below (w.heap.size + 1) (w.alloc (.cells #[.int .u8 97, .int .u8 98, .int .u8 99, .int .u8 100, .int .u8 101, .int .u8 102] 5 (6, 7))) X) : IsB X (some ⟨w.heap.size, 0, none⟩) 6 exB := by
  refine ⟨by decide, by decide, Or.inr ⟨_, _, rfl, fun i hi => ?_⟩, by decide⟩
  have hi' : i = 0 ∨ i = 1 ∨ i = 2 ∨ i = 3 ∨ i = 4 ∨ i = 5 := by simp [exB] at hi; omega
  have f : ∀ j, X.cell? ⟨w.heap.size, j, none⟩ = _ := fun j => (h.cell (p := ⟨w.heap.size, j, none⟩) (by show w.heap.size < _; omega)).trans (World.cell?_alloc_mark w _ _ (6, 7) j)
  rcases hi' with rfl | rfl | rfl | rfl | rfl | rfl
  all_goals exact ⟨(f _).trans rfl, by decide⟩

end Go.Proofs.Ytfllomlighlejaa
end

section
namespace Go.Proofs.Ytfllomlighlejaa
open Go.ChangeShapes Go.WideShapes Go.ChangeAt Go.RowKit
theorem str_ex : strOfNums [97, 98, 120, 121, 100, 101, 102] = ⟨#[97, 98, 120, 121, 100, 101, 102]⟩ := by decide
theorem str_c : strOfNums [99] = ⟨#[99]⟩ := by decide
theorem exLens (wb : World) (a : Option Addr) (c : Nat) (h : IsO wb a exD) :
    Calls Try.prog 23 #[.slice a 4 c] wb fun y w' => y = .returned (.tuple #[.int .i64 6, .int .i64 7, .int .i64 0]) ∧ Below wb.heap.size wb w' :=
  (Lens_at a c exD wb h (by decide)).mono fun y w' ⟨e, x⟩ => by
    unfold lensV at e
    rw [ex_val.1, ex_val.2.1, ex_val.2.2] at e
    exact ⟨e, x⟩
theorem exValid (wb : World) (a : Option Addr) (c : Nat) (h : IsO wb a exD) :
    Calls Try.prog 36 #[.slice a 4 c] wb fun y w' => y = .returned (.bool true) ∧ Below wb.heap.size wb w' :=
  (Valid_atD a c exD wb h (by decide)).mono fun y w' ⟨e, x⟩ => by
    rw [ex_val.1] at e
    exact ⟨e, x⟩
end Go.Proofs.Ytfllomlighlejaa
end

section
namespace Go.Proofs.Ytfllomlighlejaa
open Go.ChangeShapes Go.WideShapes Go.ChangeAt Go.RowKit
attribute [local go_sem] Oper.semAt_some

theorem Own.isB {w : World} {B : Nat} {v : Value} {l : List Int} (h : Own w B v l) (hl : ∀ x ∈ l, 0 ≤ x ∧ x ≤ 255) (hn : l.length ≤ 140737488351232) : ∃ a c, v = .slice a l.length c ∧ IsB w a c l := by
  have hh := h
  rcases h.2 with ⟨rfl, h0⟩ | ⟨g, cap, cur, rfl, _, _, hc, _⟩
  · have h0' : l = [] := List.length_eq_zero_iff.1 h0
    exact ⟨none, 0, by rw [h0], by omega, hn, Or.inl h0', hl⟩
  · exact ⟨some ⟨g, 0, none⟩, cap, rfl, hc, hn, Or.inr ⟨g, 0, rfl, hh.lies hl⟩, hl⟩
/-- the inverse is of bytes, if the old bytes are -/
theorem runV_tb {b : List Int} (hb : ∀ x ∈ b, 0 ≤ x ∧ x ≤ 255) (d : List Dop) : (∀ x ∈ (runV b d).1, 0 ≤ x ∧ x ≤ 255) ∧ ∀ o ∈ (runV b d).2, TbD o := by
  unfold runV
  have : ∀ (d : List Dop) (s : List Int × List Dop), ((∀ x ∈ s.1, 0 ≤ x ∧ x ≤ 255) ∧ ∀ o ∈ s.2, TbD o) → (∀ x ∈ (d.foldl stV s).1, 0 ≤ x ∧ x ≤ 255) ∧ ∀ o ∈ (d.foldl stV s).2, TbD o := by
    intro d
    induction d with
    | nil => intro s h; exact h
    | cons o r ih =>
      intro s h
      refine ih _ ?_
      unfold stV
      split
      · refine ⟨fun x hx => h.1 x (List.mem_of_mem_drop hx), fun q hq => ?_⟩
        rcases List.mem_append.1 hq with hq | hq
        · exact h.2 q hq
        · rw [List.mem_singleton.1 hq]; intro x hx; cases hx
      · split
        · refine ⟨h.1, fun q hq => ?_⟩
          rcases List.mem_append.1 hq with hq | hq
          · exact h.2 q hq
          · rw [List.mem_singleton.1 hq]; intro x hx; cases hx
        · refine ⟨fun x hx => h.1 x (List.mem_of_mem_drop hx), fun q hq => ?_⟩
          rcases List.mem_append.1 hq with hq | hq
          · exact h.2 q hq
          · rw [List.mem_singleton.1 hq]; intro x hx; exact h.1 x (List.mem_of_mem_take hx)
  exact this d (b, []) ⟨hb, fun o ho => by cases ho⟩

end Go.Proofs.Ytfllomlighlejaa
end

section
namespace Go.Proofs.Ytfllomlighlejaa
open Go.ChangeShapes Go.WideShapes Go.ChangeAt Go.RowKit
theorem runW_tb {b : List Int} (hb : ∀ x ∈ b, 0 ≤ x ∧ x ≤ 255) (d : List Dop) (hd : ∀ o ∈ d, TbD o) : (∀ x ∈ (runW b d).1, 0 ≤ x ∧ x ≤ 255) ∧ ∀ x ∈ (runW b d).2, 0 ≤ x ∧ x ≤ 255 := by
  unfold runW
  have : ∀ (d : List Dop), (∀ o ∈ d, TbD o) → ∀ (s : List Int × List Int), ((∀ x ∈ s.1, 0 ≤ x ∧ x ≤ 255) ∧ ∀ x ∈ s.2, 0 ≤ x ∧ x ≤ 255) → (∀ x ∈ (d.foldl stW s).1, 0 ≤ x ∧ x ≤ 255) ∧ ∀ x ∈ (d.foldl stW s).2, 0 ≤ x ∧ x ≤ 255 := by
    intro d
    induction d with
    | nil => intro _ s h; exact h
    | cons o r ih =>
      intro hd s h
      refine ih (fun q hq => hd q (List.mem_cons_of_mem _ hq)) _ ?_
      unfold stW
      split
      · refine ⟨fun x hx => h.1 x (List.mem_of_mem_drop hx), fun x hx => ?_⟩
        rcases List.mem_append.1 hx with hx | hx
        · exact h.2 x hx
        · exact h.1 x (List.mem_of_mem_take hx)
      · split
        · refine ⟨h.1, fun x hx => ?_⟩
          rcases List.mem_append.1 hx with hx | hx
          · exact h.2 x hx
          · exact hd o List.mem_cons_self x hx
        · exact ⟨fun x hx => h.1 x (List.mem_of_mem_drop hx), h.2⟩
  exact this d hd (b, []) ⟨hb, fun o ho => by cases ho⟩
def apE (b : List Int) (d : List Dop) : List Int := if fitE d b.length = 0 then apD b d else []
theorem apE_tb {b : List Int} (hb : ∀ x ∈ b, 0 ≤ x ∧ x ≤ 255) {d : List Dop} (hd : ∀ o ∈ d, TbD o) : (∀ x ∈ apE b d, 0 ≤ x ∧ x ≤ 255) ∧ (apE b d).length ≤ 140737488351232 := by
  unfold apE
  rcases fit_cases d b.length with ⟨hv, he⟩ | ⟨hv, hf, he, _⟩ | ⟨hv, hf, he⟩
  · rw [he, if_neg (by decide)]; exact ⟨fun x hx => (by cases hx), by simp⟩
  · rw [he, if_neg (by decide)]; exact ⟨fun x hx => (by cases hx), by simp⟩
  · rw [he, if_pos rfl, ap_len hv hf]
    exact ⟨(runW_tb hb d hd).2, by have := (valB_nn hv).2; omega⟩
end Go.Proofs.Ytfllomlighlejaa
end

section
namespace Go.Proofs.Ytfllomlighlejaa
open Go.ChangeShapes Go.WideShapes Go.ChangeAt Go.RowKit
attribute [local go_sem] Oper.semAt_some

def TbB (b : Bld) : Prop := (∀ o ∈ b.ops, TbD o) ∧ ∀ x ∈ b.tx, 0 ≤ x ∧ x ≤ 255
theorem tb_fin {b : Bld} (h : TbB b) : ∀ o ∈ b.fin, TbD o := by
  intro o ho
  unfold Bld.fin at ho
  rcases List.mem_append.1 ho with ho | ho
  · rcases List.mem_append.1 ho with ho | ho
    · rcases List.mem_append.1 ho with ho | ho
      · exact h.1 o ho
      · unfold kO at ho
        split at ho
        · cases ho
        · rw [List.mem_singleton.1 ho]; intro x hx; cases hx
    · unfold pO at ho
      split at ho
      · cases ho
      · rw [List.mem_singleton.1 ho]; exact h.2
  · unfold dO at ho
    split at ho
    · cases ho
    · rw [List.mem_singleton.1 ho]; intro x hx; cases hx
theorem tb_op {b : Bld} {o : Dop} (h : TbB b) (ho : TbD o) : TbB (b.op o) := by
  unfold Bld.op
  split
  · unfold Bld.keep
    split
    · exact h
    · split
      · exact ⟨h.1, fun x hx => by cases hx⟩
      · exact ⟨tb_fin h, fun x hx => by cases hx⟩
  · split
    · refine ⟨h.1, fun x hx => ?_⟩
      rcases List.mem_append.1 hx with hx | hx
      · exact h.2 x hx
      · exact ho x hx
    · exact h
theorem tb_feed : ∀ (e : List Dop) (b : Bld), TbB b → (∀ o ∈ e, TbD o) → TbB (feedD b e)
  | [], _, h, _ => h
  | o :: r, b, h, he => tb_feed r (b.op o) (tb_op h (he o List.mem_cons_self)) (fun q hq => he q (List.mem_cons_of_mem _ hq))
theorem can_tb {e : List Dop} (he : ∀ o ∈ e, TbD o) : ∀ o ∈ canA (dA e), TbD o := by
  unfold canA
  rw [← feedD_A]
  exact tb_fin (tb_feed e b0 ⟨fun o ho => by simp [b0] at ho, fun x hx => by simp [b0] at hx⟩ he)
theorem iv_small {b : List Int} {d : List Dop} (hv : valB d = true) (hf : frD d = b.length) : (canA (dA (ivD b d))).length ≤ 4611686018427387904 := by
  have h1 := can_len (canA_can (dA (ivD b d))).p
  have h2 : (dA (canA (dA (ivD b d)))).length = (dA (ivD b d)).length := fin_len _
  have h3 := (runV_len hv hf d.length (Nat.le_refl _)).2
  have h4 := (valB_nn hv).2
  rw [List.take_length] at h3
  have h5 : (dA (ivD b d)).length ≤ frD d + toD d := h3
  omega
end Go.Proofs.Ytfllomlighlejaa
end
