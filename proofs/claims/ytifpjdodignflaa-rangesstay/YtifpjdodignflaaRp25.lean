/- Layer 13: Changes. · Layer 13: the document's Changes. · Layer 13: the inverter, Invert. · Layer 13: Invert. · Layer 13, the document's Apply. · Layer 13, the document's Invert. · Layer 13: the law's fixed fact (the document's examples), its copies. · Layer 13: the law's fixed fact. · Layer 13: the law's same and bytes, told by what lies there. · Layer 13: DeltaApply. -/
import Derived.Test.YtifpjdodignflaaRp24
import Derived.Test.YtifpjdodignflaaRp21
import Derived.Test.YtifpjdodignflaaRp23
import Derived.Lib.SlBytesConst

section
namespace Go.Proofs.Ytifpjdodignflaa
open Go.ChangeShapes Go.WideShapes Go.ChangeAt Go.RowKit
attribute [local go_sem] Oper.semAt_some

theorem upL_len (f : Dop → Dop) (l : List Dop) : (upL f l).length = l.length := by
  by_cases h : l = []
  · subst h; rfl
  · obtain ⟨e, x, rfl⟩ := list_snoc h; rw [upL_snoc]; simp
theorem her_len (m : Nat) (cs : List Dop) : (herL m cs).length ≤ cs.length + 1 := by unfold herL; split <;> simp
theorem stL_len (s : Nat × List Dop) (o : Dop) : (stL s o).2.length ≤ s.2.length + 1 := by
  unfold stL
  split
  · simp
  · split
    · simp only [upL_len]; exact her_len _ _
    · simp only [upL_len]; exact her_len _ _
theorem runL_len (d : List Dop) : ∀ k, k ≤ d.length → (runL (d.take k)).2.length ≤ k
  | 0, _ => by simp [runL]
  | k + 1, hk => by
    rw [runL_take d (by omega)]
    have := stL_len (runL (d.take k)) (d.getD k opZ)
    have := runL_len d k (by omega)
    omega
theorem runL_at {d : List Dop} (hv : valB d = true) : ∀ k, k ≤ d.length → (runL (d.take k)).1 = frD (d.take k)
  | 0, _ => by simp [runL, frD]
  | k + 1, hk => by
    rw [runL_take d (by omega), frD_take d (by omega), ← runL_at hv k (by omega)]
    have hx := valB_op hv (getD_memD (d := d) (k := k) (by omega))
    generalize d.getD k opZ = x at *
    unfold stL frN
    rcases hx with ⟨h1 | h1, _, _⟩ | ⟨h1, _, _⟩ <;> simp [h1]
theorem val_len {d : List Dop} (hv : valB d = true) : d.length ≤ 536870912 := by
  have h1 := can_len (d := d) (fun o ho => by
    rcases valB_op hv ho with ⟨h1, h2, h3⟩ | ⟨h1, h2, h3⟩
    · exact .inl ⟨h1, h2, h3⟩
    · exact .inr ⟨h1, h2, h3⟩)
  have h2 := dA_len (valB_k hv)
  have h3 := (valB_nn hv).2
  omega
set_option maxRecDepth 100000 in
theorem each_l (a : Option Addr) (c B g : Nat) (d : List Dop) (X : World) (hO : ∀ Y, Below B X Y → IsO Y a d) (v : Value) (hX : IsLv B X X g 0 v []) (hl : d.length ≤ 4611686018427387904) (hv : valB d = true) :
    Calls Try.prog 63 #[.slice a d.length c, .func (.func 92) #[.pointer (some ⟨g, 0, none⟩)] #[], .func (.func 93) #[.pointer (some ⟨g, 0, none⟩)] #[], .func (.func 94) #[.pointer (some ⟨g, 0, none⟩)] #[]] X
      fun y X' => y = .returned (.tuple #[]) ∧ ∃ v', IsLv B X X' g (runL d).1 v' (runL d).2 := by
  have hz := (valB_nn hv).2
  have hdl := val_len hv
  have := each_at a c B d X 92 93 94 (.pointer (some ⟨g, 0, none⟩))
    (fun k Y => ∃ v', IsLv B X Y g (runL (d.take k)).1 v' (runL (d.take k)).2)
    (enters_of Try.func92 (by kernel_rfl) rfl) (enters_of Try.func93 (by kernel_rfl) rfl) (enters_of Try.func94 (by kernel_rfl) rfl)
    hO (fun k Y ⟨_, hY⟩ => hY.d) (fun k Y o ⟨v', hY⟩ => ⟨v', hY.on ((Below.refl _ _).alloc (Nat.le_refl _) o)⟩) ⟨v, hX⟩ hl
    (fun k Y hlt h1 ⟨v', hY⟩ => by
      have hx := valB_op hv (getD_memD hlt)
      have e0 := runL_at hv k (by omega)
      have e1 := frD_take d hlt
      have e3 := frD_le d (k + 1)
      rw [runL_take d hlt]
      generalize runL (d.take k) = s at *
      generalize d.getD k opZ = x at *
      obtain ⟨xk, xn, xt⟩ := x
      dsimp only at hx h1
      subst h1
      rcases hx with ⟨_, hn, rfl⟩ | ⟨h2, _⟩
      · obtain ⟨m, rfl⟩ : ∃ m : Nat, xn = (m : Int) := ⟨xn.toNat, by omega⟩
        simp [frN] at e1
        refine (lkeep_at B X Y g s.1 m v' s.2 hY (by omega)).mono fun y Z ⟨e, hZ⟩ => ⟨e, v', ?_⟩
        simp only [stL, if_true, Int.toNat_natCast]
        exact hZ
      · omega)
    (fun k Y hlt h1 ⟨v', hY⟩ => by
      have hln := runL_len d k (by omega)
      have hx := valB_op hv (getD_memD hlt)
      rw [runL_take d hlt]
      generalize runL (d.take k) = s at *
      generalize d.getD k opZ = x at *
      obtain ⟨xk, xn, xt⟩ := x
      dsimp only at hx h1
      subst h1
      refine (lput_at B X Y g s.1 v' s.2 xt hY (by omega)).mono fun y Z ⟨e, v2, hZ⟩ => ⟨e, v2, ?_⟩
      simp only [stL, show ¬ ((2 : Int) = 1) by decide, if_false, if_true]
      exact hZ)
    (fun k Y hlt h1 ⟨v', hY⟩ => by
      have hln := runL_len d k (by omega)
      have hx := valB_op hv (getD_memD hlt)
      have e0 := runL_at hv k (by omega)
      have e1 := frD_take d hlt
      have e3 := frD_le d (k + 1)
      rw [runL_take d hlt]
      generalize runL (d.take k) = s at *
      generalize d.getD k opZ = x at *
      obtain ⟨xk, xn, xt⟩ := x
      dsimp only at hx h1
      subst h1
      rcases hx with ⟨_, hn, rfl⟩ | ⟨h2, _⟩
      · obtain ⟨m, rfl⟩ : ∃ m : Nat, xn = (m : Int) := ⟨xn.toNat, by omega⟩
        simp [frN] at e1
        refine (ldrop_at B X Y g s.1 m v' s.2 hY (by omega) (by omega)).mono fun y Z ⟨e, v2, hZ⟩ => ⟨e, v2, ?_⟩
        simp only [stL, show ¬ ((3 : Int) = 1) by decide, show ¬ ((3 : Int) = 2) by decide, if_false, Int.toNat_natCast]
        exact hZ
      · omega)
    (fun k Y hlt h1 h2 h3 _ => by rcases valB_k hv _ (getD_memD hlt) with h | h | h <;> contradiction)
  rw [List.take_length] at this
  exact this
/-- what Changes answers -/
def chD (d : List Dop) : List Dop × Int := if valB d then ((runL d).2, 0) else ([], 130)
set_option maxRecDepth 100000 in
set_option maxHeartbeats 1000000 in
theorem Changes_at (a : Option Addr) (c : Nat) (d : List Dop) (w : World) (h : IsO w a d) (hl : d.length ≤ 4611686018427387904) :
    Calls Try.prog 67 #[.slice a d.length c] w fun y w' => ∃ v, y = .returned (.tuple #[v, .int .i64 (chD d).2]) ∧ w'.ownsRow w.heap.size 113 3 v (chD d).1.length (opsV (chD d).1) ∧ Below w.heap.size w w' := by
  have HV := hide (Valid_atD a c d w h hl)
  cases hv : valB d with
  | false =>
    rw [hv] at HV
    unfold chD
    rw [hv]
    simp only [Bool.false_eq_true, if_false]
    clear hv h hl
    go_enter Try.func67, Try.ntmps67
    go_wp2_with fail
    refine (unhide HV).mono ?_
    rintro y w1 ⟨rfl, x1⟩
    dsimp only
    clear HV
    go_wp2_with fail
    refine bodyPost_ret (results_tmp2 rfl _ _ _) rfl ⟨.slice none 0 0, rfl, World.ownsRow_nil _ _ _ _, x1⟩
  | true =>
    rw [hv] at HV
    unfold chD
    rw [hv]
    simp only [if_true]
    go_enter Try.func67, Try.ntmps67
    go_wp2_with fail
    refine (unhide HV).mono ?_
    rintro y w1 ⟨rfl, x1⟩
    dsimp only
    have hW : IsLv w.heap.size (w1.alloc (.cells #[.int .i64 0, .slice none 0 0] 144)) (w1.alloc (.cells #[.int .i64 0, .slice none 0 0] 144)) w1.heap.size 0 (.slice none 0 0) [] :=
      ⟨Cls.new _ _ _, World.ownsRow_nil _ _ _ _, Below.refl _ _, x1.size, by have := x1.size; simp; omega⟩
    have HE := hide (each_l a c w.heap.size w1.heap.size d _ (fun Y hY => h.below ((x1.alloc x1.size _).trans hY) (Nat.le_refl _)) _ hW hl hv)
    have HX := hide (x1.alloc x1.size (.cells #[.int .i64 0, .slice none 0 0] 144))
    clear HV hW h hl hv x1
    go_upto_region 4 with fail
    generalize w1.alloc (.cells #[.int .i64 0, .slice none 0 0] 144) = w4 at *
    generalize w1.heap.size = g at *
    go_wp2_with fail
    refine (unhide HE).mono ?_
    rintro y w5 ⟨rfl, v5, h5⟩
    dsimp only
    have e1 : w5.cell? ⟨g, 1, none⟩ = some v5 := h5.a.cell 1
    have HOw := hide h5.r
    have HXX := hide ((unhide HX).trans h5.d)
    clear HE h5 HX
    go_wp2_with fail
    refine bodyPost_ret (results_tmp2 rfl _ _ _) rfl ⟨_, rfl, unhide HOw, unhide HXX⟩

end Go.Proofs.Ytifpjdodignflaa
end

section
namespace Go.Proofs.Ytifpjdodignflaa
open Go.ChangeShapes Go.WideShapes Go.ChangeAt Go.RowKit
attribute [local go_sem] Oper.semAt_some

structure ChI (d : List Dop) (k f : Nat) (op : Bool) (v : Value) (cs : List Dop) (w X : World) : Prop where
  ef : f = frD (d.take k)
  l : cs = (runL (d.take k)).2
  p : op = decide (cs.getLast?.map Dop.n = some (f : Int))
  n : ∀ x, cs.getLast? = some x → x.n ≤ (f : Int)
  o : X.ownsRow w.heap.size 113 3 v cs.length (opsV cs)
  d : Below w.heap.size w X
theorem ChI.open {d : List Dop} {k f : Nat} {v : Value} {cs : List Dop} {w X : World} (h : ChI d k f true v cs w X) : ∃ e x, cs = e ++ [x] ∧ x.n = (f : Int) ∧ herL f cs = e ++ [x] := by
  have hp := of_decide_eq_true h.p.symm
  obtain ⟨e, x, rfl⟩ := list_snoc (d := cs) (fun h0 => by rw [h0] at hp; simp at hp)
  exact ⟨e, x, rfl, by simpa using hp, by unfold herL; rw [if_pos hp]⟩
theorem ChI.shut {d : List Dop} {k f : Nat} {v : Value} {cs : List Dop} {w X : World} (h : ChI d k f false v cs w X) : herL f cs = cs ++ [⟨f, f, []⟩] := by
  have hp := of_decide_eq_false h.p.symm
  unfold herL; rw [if_neg hp]
theorem ChI.keep {d : List Dop} {k f m : Nat} {op : Bool} {v : Value} {cs : List Dop} {w X : World} (h : ChI d k f op v cs w X) (hk : k < d.length) (hx : d.getD k opZ = ⟨1, (m : Int), []⟩) (hm : 1 ≤ m) : ChI d (k + 1) (f + m) false v cs w X := by
  refine ⟨?_, ?_, ?_, ?_, h.o, h.d⟩
  · rw [frD_take d hk, hx, ← h.ef]; simp [frN]
  · rw [runL_take d hk, hx, h.l]; simp [stL]
  · symm
    refine decide_eq_false fun e => ?_
    cases hc : cs.getLast? with
    | none => rw [hc] at e; simp at e
    | some x => rw [hc] at e; have := h.n x hc; simp at e; omega
  · intro x hx'
    have := h.n x hx'
    omega
theorem ChI.put {d : List Dop} {k f : Nat} {t : List Int} {op : Bool} {v v' : Value} {cs e : List Dop} {x : Dop} {w X Y : World} (h : ChI d k f op v cs w X) (hk : k < d.length) (hx : d.getD k opZ = ⟨2, 0, t⟩) (hH : herL f cs = e ++ [x]) (hn : x.n = (f : Int))
    (ho : Y.ownsRow w.heap.size 113 3 v' (e ++ [(⟨x.k, x.n, t⟩ : Dop)]).length (opsV (e ++ [⟨x.k, x.n, t⟩]))) (hb : Below w.heap.size w Y) (hv : valB d = true) : ChI d (k + 1) f true v' (e ++ [⟨x.k, x.n, t⟩]) w Y := by
  have e1 : (runL (d.take k)).1 = f := (runL_at hv k (by omega)).trans h.ef.symm
  refine ⟨?_, ?_, ?_, ?_, ho, hb⟩
  · rw [frD_take d hk, hx, ← h.ef]; simp [frN]
  · rw [runL_take d hk, hx]; simp only [stL, show ¬ ((2 : Int) = 1) by decide, if_false, if_true]; rw [e1, ← h.l, hH, upL_snoc]
  · simp [hn]
  · intro y hy; simp at hy; subst hy; dsimp only; omega
theorem ChI.drop {d : List Dop} {k f m : Nat} {op : Bool} {v v' : Value} {cs e : List Dop} {x : Dop} {w X Y : World} (h : ChI d k f op v cs w X) (hk : k < d.length) (hx : d.getD k opZ = ⟨3, (m : Int), []⟩) (hH : herL f cs = e ++ [x]) (hn : x.n = (f : Int))
    (ho : Y.ownsRow w.heap.size 113 3 v' (e ++ [(⟨x.k, ((f + m : Nat) : Int), x.t⟩ : Dop)]).length (opsV (e ++ [⟨x.k, ((f + m : Nat) : Int), x.t⟩]))) (hb : Below w.heap.size w Y) (hv : valB d = true) : ChI d (k + 1) (f + m) true v' (e ++ [⟨x.k, ((f + m : Nat) : Int), x.t⟩]) w Y := by
  have e1 : (runL (d.take k)).1 = f := (runL_at hv k (by omega)).trans h.ef.symm
  refine ⟨?_, ?_, ?_, ?_, ho, hb⟩
  · rw [frD_take d hk, hx, ← h.ef]; simp [frN]
  · rw [runL_take d hk, hx]; simp only [stL, show ¬ ((3 : Int) = 1) by decide, show ¬ ((3 : Int) = 2) by decide, if_false]; rw [e1, ← h.l, hH, upL_snoc]; simp [hn]
  · simp
  · intro y hy; simp at hy; subst hy; dsimp only; omega
set_option maxRecDepth 100000 in
set_option maxHeartbeats 4000000 in
theorem RChanges_at (a : Option Addr) (c : Nat) (d : List Dop) (w : World) (h : IsO w a d) (hl : d.length ≤ 4611686018427387904) (hv : valB d = true) :
    Calls Try.prog 59 #[.slice a d.length c] w fun y w' => ∃ v, y = .returned v ∧ w'.ownsRow w.heap.size 113 3 v (runL d).2.length (opsV (runL d).2) ∧ Below w.heap.size w w' := by
  have HO := hide fun (X : World) (hx : Below w.heap.size w X) => h.below hx (Nat.le_refl _)
  have HVV := hide hv
  have hdl := val_len hv
  clear h hv
  go_enter Try.func59, Try.ntmps59
  go_wp2_with fail
  go_loopw [3, 4, 5, 6, 7, 8] (fun v3 v4 v5 v6 v7 v8 wx => (∃ z, v7 = z) ∧ (∃ z, v8 = z) ∧ (∃ (k f : Nat) (op : Bool) (cs : List Dop), v6 = .int .i64 (k : Int) ∧ v4 = .int .i64 (f : Int) ∧ v5 = .bool op ∧ k ≤ d.length ∧ Hid (ChI d k f op v3 cs w wx))) (fun _ _ _ v6 _ _ _ => d.length - (intOf v6).toNat)
  case atStart => exact ⟨⟨_, rfl⟩, ⟨_, rfl⟩, ⟨0, 0, false, [], rfl, rfl, rfl, Nat.zero_le _, hide ⟨rfl, rfl, rfl, by simp, World.ownsRow_nil _ _ _ _, Below.refl _ _⟩⟩⟩
  case round =>
    obtain ⟨⟨z1, rfl⟩, ⟨z2, rfl⟩, ⟨k, f, op, cs, rfl, rfl, rfl, hk, HI⟩⟩ := hrel
    by_cases hlt : k < d.length
    · have t1 : decide ((k : Int) < (d.length : Int)) = true := decide_eq_true (by omega)
      obtain ⟨g, off, ha', hg', _⟩ := (unhide HO w (Below.refl _ _)).three hlt
      obtain ⟨g', off', rfl, hg, e0, e1, e2⟩ := (unhide HO wr (unhide HI).d).three hlt
      obtain ⟨rfl, rfl⟩ : g' = g ∧ off' = off := by cases ha'; exact ⟨rfl, rfl⟩
      clear ha' hg
      have hgw := hg'
      clear hg'
      have hx := valB_op (unhide HVV) (getD_memD hlt)
      have hle := (frD_le d (k + 1)).1
      have hfr := frD_take d hlt
      have hz2 := (valB_nn (unhide HVV)).2.1
      rw [← (unhide HI).ef] at hfr
      have hcl : cs.length ≤ 536870912 := by have := runL_len d k hk; rw [← (unhide HI).l] at this; omega
      obtain ⟨x, hX⟩ : ∃ x, x = d.getD k opZ := ⟨_, rfl⟩
      rw [← hX] at e0 e1 e2 hx hfr
      have HX := hide hX.symm
      clear hX
      obtain ⟨xk, xn, xt⟩ := x
      dsimp only at e0 e1 e2 hx
      rcases hx with ⟨rfl | rfl, hn, rfl⟩ | ⟨rfl, rfl, hn⟩
      · obtain ⟨m, rfl⟩ : ∃ m : Nat, xn = (m : Int) := ⟨xn.toNat, by omega⟩
        simp only [frN, true_or, if_true, Int.toNat_natCast] at hfr
        have HN := hide ((unhide HI).keep hlt (unhide HX) (by omega))
        have q1 : f + m ≤ 268435456 := by omega
        clear HI HX hfr hle hz2 hcl hn hdl hk e2
        --@cut1
        go_wp2_with fail
        go_roundw
        case rel => exact ⟨⟨_, rfl⟩, ⟨_, rfl⟩, ⟨k + 1, f + m, false, cs, by go_num, by go_num, rfl, hlt, HN⟩⟩
        case measure => simp [intOf]; omega
      · obtain ⟨m, rfl⟩ : ∃ m : Nat, xn = (m : Int) := ⟨xn.toNat, by omega⟩
        simp only [frN, or_true, if_true, Int.toNat_natCast] at hfr
        have q1 : f + m ≤ 268435456 := by omega
        have e4 : wrap64 ((f : Int) + (m : Int)) = ((f + m : Nat) : Int) := by rw [wrapD _ (by omega) (by omega)]; omega
        cases op with
        | true =>
          obtain ⟨e, x, hcs, hxn, hH⟩ := (unhide HI).open
          have ho := (unhide HI).o
          rw [hcs] at ho
          obtain ⟨G, c3, rfl, hG⟩ := rowD_some ho (by simp)
          have hbX := (unhide HI).d
          obtain ⟨l0, l1, l2⟩ := opsV_last e x
          have ho' : wr.ownsRow w.heap.size 113 3 (.slice (some ⟨G, 0, none⟩) (e.length + 1) c3) (e.length + 1) (opsV (e ++ [x])) := by simpa using ho
          obtain ⟨m1, z1⟩ := rowD_cell ho' l1
          have hS := rowD_set ho' (e.length * 3 + 1) (.int .i64 ((f + m : Nat) : Int))
          rw [opsV_set1] at hS
          have hB := hbX.setCell (p := ⟨G, e.length * 3 + 1, none⟩) hG (.int .i64 ((f + m : Nat) : Int))
          have HN := hide ((unhide HI).drop (v' := .slice (some ⟨G, 0, none⟩) (e.length + 1) c3) hlt (unhide HX) hH hxn (by simpa using hS) hB (unhide HVV))
          have hq : e.length ≤ 1073741824 := by have := congrArg List.length hcs; simp at this; omega
          have hc3 : e.length + 1 ≤ c3 := by obtain ⟨_, _, he3, hc⟩ := rowD_form ho'; simp at he3; obtain ⟨_, rfl⟩ := he3; exact hc
          have hcl2 : (e ++ [x]).length = e.length + 1 := by simp
          rw [hcl2]
          clear hcl2
          clear HI HX ho ho' hS hB hxn hH l0 l1 l2 hbX hG hle hz2 hcl hn hdl hk hcs hfr
          generalize e ++ [(⟨x.k, ((f + m : Nat) : Int), x.t⟩ : Dop)] = E at *
          have e5 := (last_arith hq).1
          clear hq
          generalize e.length = q at *
          generalize hQ1 : q + 1 = Q1 at *
          have hq1 : q < Q1 := by omega
          clear hQ1
          generalize hM : f + m = M at *
          clear hM
          go_wp2_with fail
          go_roundw
          case rel => exact ⟨⟨_, rfl⟩, ⟨_, rfl⟩, ⟨k + 1, M, true, E, by go_num, by first | rfl | go_num, rfl, hlt, HN⟩⟩
          case measure => simp [intOf]; omega
        | false =>
          have hH := (unhide HI).shut
          obtain ⟨G, c3, W2, r2, ho, gr2, b2⟩ := push_ch wr w.heap.size cs.length u3 (opsV cs) (f : Int) (f : Int) ⟨#[]⟩ 110 (unhide HI).o (by omega) (unhide HI).d.size
          have hbX := (unhide HI).d.trans b2
          have he : opsV cs ++ [.int .i64 (f : Int), .int .i64 (f : Int), .string ⟨#[]⟩] = opsV (cs ++ [⟨f, f, []⟩]) := by rw [opsV_app, opsV_one]; rfl
          rw [he] at ho
          clear he
          obtain ⟨e, he⟩ : ∃ e, e = cs := ⟨_, rfl⟩
          obtain ⟨x, hxx⟩ : ∃ x : Dop, x = ⟨f, f, []⟩ := ⟨_, rfl⟩
          have hxn : x.n = (f : Int) := by rw [hxx]
          rw [← hxx, ← he] at ho hH
          rw [he] at hH
          have hH : herL f cs = e ++ [x] := by rw [hH, he]
          have hG : w.heap.size ≤ G := (rowD_block ho (G := G) rfl).1
          obtain ⟨f0, f1, f2⟩ : W2.cell? ⟨g', off' + k * 3, none⟩ = wr.cell? ⟨g', off' + k * 3, none⟩ ∧ W2.cell? ⟨g', off' + k * 3 + 1, none⟩ = wr.cell? ⟨g', off' + k * 3 + 1, none⟩ ∧ W2.cell? ⟨g', off' + k * 3 + 2, none⟩ = wr.cell? ⟨g', off' + k * 3 + 2, none⟩ := ⟨b2.cell (p := ⟨g', off' + k * 3, none⟩) hgw, b2.cell (p := ⟨g', off' + k * 3 + 1, none⟩) hgw, b2.cell (p := ⟨g', off' + k * 3 + 2, none⟩) hgw⟩
          rw [e0] at f0
          rw [e1] at f1
          rw [e2] at f2
          have hel : e.length = cs.length := by rw [he]
          rw [← hel] at r2
          have R2 := hide r2
          clear r2 gr2 b2
          obtain ⟨l0, l1, l2⟩ := opsV_last e x
          have ho' : W2.ownsRow w.heap.size 113 3 (.slice (some ⟨G, 0, none⟩) (e.length + 1) c3) (e.length + 1) (opsV (e ++ [x])) := by simpa using ho
          obtain ⟨m1, z1⟩ := rowD_cell ho' l1
          have hS := rowD_set ho' (e.length * 3 + 1) (.int .i64 ((f + m : Nat) : Int))
          rw [opsV_set1] at hS
          have hB := hbX.setCell (p := ⟨G, e.length * 3 + 1, none⟩) hG (.int .i64 ((f + m : Nat) : Int))
          have HN := hide ((unhide HI).drop (v' := .slice (some ⟨G, 0, none⟩) (e.length + 1) c3) hlt (unhide HX) hH hxn (by simpa using hS) hB (unhide HVV))
          have hq : e.length ≤ 1073741824 := by omega
          have hc3 : e.length + 1 ≤ c3 := by obtain ⟨_, _, he3, hc⟩ := rowD_form ho'; simp at he3; obtain ⟨_, rfl⟩ := he3; exact hc
          clear HI HX ho ho' hS hB hxn hH l0 l1 l2 hbX hG hle hz2 hcl hn hdl hk hxx he hel hfr
          generalize e ++ [(⟨x.k, ((f + m : Nat) : Int), x.t⟩ : Dop)] = E at *
          have e5 := (last_arith hq).1
          clear hq
          generalize e.length = q at *
          generalize hQ1 : q + 1 = Q1 at *
          have hq1 : q < Q1 := by omega
          clear hQ1
          generalize hM : f + m = M at *
          clear hM
          go_upto_region 13 with (at_builtin; refine wpList_append_known rfl _ _ 110 110 rfl _ _ rfl rfl _ _ (unhide R2) ?_; clear R2)
          clear e0 e1 e2
          go_wp2_with fail
          go_roundw
          case rel => exact ⟨⟨_, rfl⟩, ⟨_, rfl⟩, ⟨k + 1, M, true, E, by go_num, by first | rfl | go_num, rfl, hlt, HN⟩⟩
          case measure => simp [intOf]; omega
      · clear hfr
        cases op with
        | true =>
          obtain ⟨e, x, hcs, hxn, hH⟩ := (unhide HI).open
          have ho := (unhide HI).o
          rw [hcs] at ho
          obtain ⟨G, c3, rfl, hG⟩ := rowD_some ho (by simp)
          have hbX := (unhide HI).d
          obtain ⟨l0, l1, l2⟩ := opsV_last e x
          have ho' : wr.ownsRow w.heap.size 113 3 (.slice (some ⟨G, 0, none⟩) (e.length + 1) c3) (e.length + 1) (opsV (e ++ [x])) := by simpa using ho
          obtain ⟨m1, z1⟩ := rowD_cell ho' l2
          have hS := rowD_set ho' (e.length * 3 + 2) (.string (strOfNums xt))
          rw [opsV_set2] at hS
          have hB := hbX.setCell (p := ⟨G, e.length * 3 + 2, none⟩) hG (.string (strOfNums xt))
          have HN := hide ((unhide HI).put (v' := .slice (some ⟨G, 0, none⟩) (e.length + 1) c3) hlt (unhide HX) hH hxn (by simpa using hS) hB (unhide HVV))
          have hq : e.length ≤ 1073741824 := by have := congrArg List.length hcs; simp at this; omega
          have hc3 : e.length + 1 ≤ c3 := by obtain ⟨_, _, he3, hc⟩ := rowD_form ho'; simp at he3; obtain ⟨_, rfl⟩ := he3; exact hc
          have hcl2 : (e ++ [x]).length = e.length + 1 := by simp
          rw [hcl2]
          clear hcl2
          clear HI HX ho ho' hS hB hxn hH l0 l1 l2 hbX hG hle hz2 hcl hn hdl hk hcs
          generalize e ++ [(⟨x.k, x.n, xt⟩ : Dop)] = E at *
          have e5 := (last_arith hq).1
          clear hq
          generalize e.length = q at *
          generalize hQ1 : q + 1 = Q1 at *
          have hq1 : q < Q1 := by omega
          clear hQ1
          go_wp2_with fail
          go_roundw
          case rel => exact ⟨⟨_, rfl⟩, ⟨_, rfl⟩, ⟨k + 1, f, true, E, by go_num, by first | rfl | go_num, rfl, hlt, HN⟩⟩
          case measure => simp [intOf]; omega
        | false =>
          have hH := (unhide HI).shut
          obtain ⟨G, c3, W2, r2, ho, gr2, b2⟩ := push_ch wr w.heap.size cs.length u3 (opsV cs) (f : Int) (f : Int) ⟨#[]⟩ 110 (unhide HI).o (by omega) (unhide HI).d.size
          have hbX := (unhide HI).d.trans b2
          have he : opsV cs ++ [.int .i64 (f : Int), .int .i64 (f : Int), .string ⟨#[]⟩] = opsV (cs ++ [⟨f, f, []⟩]) := by rw [opsV_app, opsV_one]; rfl
          rw [he] at ho
          clear he
          obtain ⟨e, he⟩ : ∃ e, e = cs := ⟨_, rfl⟩
          obtain ⟨x, hxx⟩ : ∃ x : Dop, x = ⟨f, f, []⟩ := ⟨_, rfl⟩
          have hxn : x.n = (f : Int) := by rw [hxx]
          rw [← hxx, ← he] at ho hH
          rw [he] at hH
          have hH : herL f cs = e ++ [x] := by rw [hH, he]
          have hG : w.heap.size ≤ G := (rowD_block ho (G := G) rfl).1
          obtain ⟨f0, f1, f2⟩ : W2.cell? ⟨g', off' + k * 3, none⟩ = wr.cell? ⟨g', off' + k * 3, none⟩ ∧ W2.cell? ⟨g', off' + k * 3 + 1, none⟩ = wr.cell? ⟨g', off' + k * 3 + 1, none⟩ ∧ W2.cell? ⟨g', off' + k * 3 + 2, none⟩ = wr.cell? ⟨g', off' + k * 3 + 2, none⟩ := ⟨b2.cell (p := ⟨g', off' + k * 3, none⟩) hgw, b2.cell (p := ⟨g', off' + k * 3 + 1, none⟩) hgw, b2.cell (p := ⟨g', off' + k * 3 + 2, none⟩) hgw⟩
          rw [e0] at f0
          rw [e1] at f1
          rw [e2] at f2
          have hel : e.length = cs.length := by rw [he]
          rw [← hel] at r2
          have R2 := hide r2
          clear r2 gr2 b2
          obtain ⟨l0, l1, l2⟩ := opsV_last e x
          have ho' : W2.ownsRow w.heap.size 113 3 (.slice (some ⟨G, 0, none⟩) (e.length + 1) c3) (e.length + 1) (opsV (e ++ [x])) := by simpa using ho
          obtain ⟨m1, z1⟩ := rowD_cell ho' l2
          have hS := rowD_set ho' (e.length * 3 + 2) (.string (strOfNums xt))
          rw [opsV_set2] at hS
          have hB := hbX.setCell (p := ⟨G, e.length * 3 + 2, none⟩) hG (.string (strOfNums xt))
          have HN := hide ((unhide HI).put (v' := .slice (some ⟨G, 0, none⟩) (e.length + 1) c3) hlt (unhide HX) hH hxn (by simpa using hS) hB (unhide HVV))
          have hq : e.length ≤ 1073741824 := by omega
          have hc3 : e.length + 1 ≤ c3 := by obtain ⟨_, _, he3, hc⟩ := rowD_form ho'; simp at he3; obtain ⟨_, rfl⟩ := he3; exact hc
          clear HI HX ho ho' hS hB hxn hH l0 l1 l2 hbX hG hle hz2 hcl hn hdl hk hxx he hel
          generalize e ++ [(⟨x.k, x.n, xt⟩ : Dop)] = E at *
          have e5 := (last_arith hq).1
          clear hq
          generalize e.length = q at *
          generalize hQ1 : q + 1 = Q1 at *
          have hq1 : q < Q1 := by omega
          clear hQ1
          go_upto_region 13 with (at_builtin; refine wpList_append_known rfl _ _ 110 110 rfl _ _ rfl rfl _ _ (unhide R2) ?_; clear R2)
          clear e0 e1 e2
          go_wp2_with fail
          go_roundw
          case rel => exact ⟨⟨_, rfl⟩, ⟨_, rfl⟩, ⟨k + 1, f, true, E, by go_num, by first | rfl | go_num, rfl, hlt, HN⟩⟩
          case measure => simp [intOf]; omega
    · obtain rfl : k = d.length := by omega
      have t1 : decide (((d.length : Nat) : Int) < (d.length : Int)) = false := by simp
      have hR := (unhide HI).o
      have hL := (unhide HI).l
      rw [List.take_length] at hL
      subst hL
      have HR := hide hR
      have HB := hide (unhide HI).d
      clear HI hR hlt hk
      go_wp2_with fail
      refine bodyPost_ret (results_tmp rfl _ _ _) rfl ⟨u3, rfl, unhide HR, unhide HB⟩

end Go.Proofs.Ytifpjdodignflaa
end

section
namespace Go.Proofs.Ytifpjdodignflaa
open Go.ChangeShapes Go.WideShapes Go.ChangeAt Go.RowKit
attribute [local go_sem] Oper.semAt_some

/-- the cell ahead of the builder's -/
def rV (v : Value) : Nat → Option Value := fun j => if j = 0 then some v else none
theorem feed_snoc (e : List Dop) (x : Dop) : feedA b0 (dA (e ++ [x])) = (feedA b0 (dA e)).op x := by
  rw [dA_app, feedA_app, op_atoms]; simp [dA]
end Go.Proofs.Ytifpjdodignflaa
end

section
namespace Go.Proofs.Ytifpjdodignflaa
open Go.ChangeShapes Go.WideShapes Go.ChangeAt Go.RowKit
attribute [local go_sem] Oper.semAt_some

/-- what waits, and what is fed, behind one operation more -/
def stV (s : List Int × List Dop) (o : Dop) : List Int × List Dop := if o.k = 1 then (s.1.drop o.n.toNat, s.2 ++ [⟨1, o.n, []⟩]) else if o.k = 2 then (s.1, s.2 ++ [⟨3, (o.t.length : Int), []⟩]) else (s.1.drop o.n.toNat, s.2 ++ [⟨2, 0, s.1.take o.n.toNat⟩])
def runV (b : List Int) (d : List Dop) : List Int × List Dop := d.foldl stV (b, [])
def ivD (b : List Int) (d : List Dop) : List Dop := (runV b d).2
theorem runV_take (b : List Int) (d : List Dop) {k : Nat} (hk : k < d.length) : runV b (d.take (k + 1)) = stV (runV b (d.take k)) (d.getD k opZ) := by
  unfold runV
  rw [List.take_add_one, List.getElem?_eq_getElem hk, Option.toList_some, List.foldl_append]
  simp [List.getD_eq_getElem?_getD, List.getElem?_eq_getElem hk]
theorem dA_snoc (e : List Dop) (x : Dop) : dA (e ++ [x]) = dA e ++ opA x := by rw [dA_app]; simp [dA]
theorem runV_len {b : List Int} {d : List Dop} (hv : valB d = true) (hf : frD d = b.length) : ∀ k, k ≤ d.length → (runV b (d.take k)).1.length + frD (d.take k) = b.length ∧ (dA (runV b (d.take k)).2).length ≤ frD (d.take k) + toD (d.take k)
  | 0, _ => by simp [runV, frD, toD, dA]
  | k + 1, hk => by
    have ih := runV_len hv hf k (by omega)
    have hx := valB_op hv (getD_memD (d := d) (k := k) (by omega))
    have e1 := frD_take d (k := k) (by omega)
    have e2 := toD_take d (k := k) (by omega)
    have e3 := (frD_le d (k + 1)).1
    rw [runV_take b d (by omega)]
    generalize runV b (d.take k) = s at *
    generalize d.getD k opZ = x at *
    obtain ⟨xk, xn, xt⟩ := x
    dsimp only at hx
    rcases hx with ⟨rfl | rfl, hn, rfl⟩ | ⟨rfl, rfl, hn⟩
    · simp [stV, frN, toN, dA_snoc, opA] at e1 e2 ⊢; omega
    · simp [stV, frN, toN, dA_snoc, opA] at e1 e2 ⊢; omega
    · simp [stV, frN, toN, dA_snoc, opA] at e1 e2 ⊢; omega
def invD (b : List Int) (d : List Dop) : List Dop := if fitE d b.length = 0 then canA (dA (ivD b d)) else []
end Go.Proofs.Ytifpjdodignflaa
end

section
namespace Go.Proofs.Ytifpjdodignflaa
open Go.ChangeShapes Go.WideShapes Go.ChangeAt Go.RowKit
attribute [local go_sem] Oper.semAt_some

theorem runW_rest {d : List Dop} (b : List Int) (hv : valB d = true) : ∀ k, k ≤ d.length → (runW b (d.take k)).1 = b.drop (frD (d.take k))
  | 0, _ => by simp [runW, frD]
  | k + 1, hk => by
    have ih := runW_rest b hv k (by omega)
    have hx := valB_op hv (getD_memD (d := d) (k := k) (by omega))
    have e1 := frD_take d (k := k) (by omega)
    rw [runW_take b d (by omega), e1]
    generalize runW b (d.take k) = s at *
    generalize d.getD k opZ = x at *
    obtain ⟨xk, xn, xt⟩ := x
    dsimp only at hx
    rcases hx with ⟨rfl | rfl, hn, rfl⟩ | ⟨rfl, rfl, hn⟩ <;> simp [stW, frN, ih]
theorem runV_rest {d : List Dop} (b : List Int) (hv : valB d = true) : ∀ k, k ≤ d.length → (runV b (d.take k)).1 = b.drop (frD (d.take k))
  | 0, _ => by simp [runV, frD]
  | k + 1, hk => by
    have ih := runV_rest b hv k (by omega)
    have hx := valB_op hv (getD_memD (d := d) (k := k) (by omega))
    have e1 := frD_take d (k := k) (by omega)
    rw [runV_take b d (by omega), e1]
    generalize runV b (d.take k) = s at *
    generalize d.getD k opZ = x at *
    obtain ⟨xk, xn, xt⟩ := x
    dsimp only at hx
    rcases hx with ⟨rfl | rfl, hn, rfl⟩ | ⟨rfl, rfl, hn⟩ <;> simp [stV, frN, ih]
theorem run_moreV (w : World) (B : Nat) (v : Value) (l m : List Int) (a0 : Option Addr) (cap : Nat) (ty : TypeId) (h : Own w B v l) (hm : IsB w a0 cap m) (h0 : 0 < m.length) (hB : B ≤ w.heap.size) (hn : l.length + m.length ≤ 140737488355328) :
    ∃ v' w', (Builtin.append_ #[43, 43] ty #[v, .slice a0 m.length cap]).run Try.prog w = .ok v' w' ∧ Own w' B v' (l ++ m) ∧ Below B w w' := by
  obtain ⟨i, hi, hz, hs, hby⟩ := info_u8
  rcases hm.2.2.1 with h3 | ⟨g0, off, rfl, hL⟩
  · rw [h3] at h0; cases h0
  obtain ⟨g', c', w', hr, ho, hg, hat, hlt⟩ := run_append_lies (P := Try.prog) w 43 ty B 5 i (.int .u8 0) 1 1 Try.underlying43 hi hz hs hby rfl (by decide)
    v l.length (l.map (Value.int .u8)) h ⟨g0, off, none⟩ m.length cap (m.map (Value.int .u8)) (by simp) (src_cells hL) (src_some _ g0 off cap m hL).one h0 (by unfold maxLen; omega) (by omega) hB (w.heap.size) (by omega)
  refine ⟨_, w', hr, ?_, (Below.refl B w).grown hg hB (fun k e => (World.ownsRow.lt h k e).1)⟩
  unfold Own
  simpa using ho
theorem run_strV (w : World) (B : Nat) (v : Value) (l t : List Int) (ty : TypeId) (h : Own w B v l) (ht : ∀ x ∈ t, 0 ≤ x ∧ x ≤ 255) (hB : B ≤ w.heap.size) (hn : l.length + t.length ≤ 140737488355328) :
    ∃ v' w', (Builtin.append_ #[43, 9] ty #[v, .string (strOfNums t)]).run Try.prog w = .ok v' w' ∧ Own w' B v' (l ++ t) ∧ Below B w w' := by
  obtain ⟨i, hi, hz, hs, hby⟩ := info_u8
  have hsz := strOfNums_size t
  obtain ⟨v', w', hr, ho, hg, _⟩ := Lib.run_append_own_string (P := Try.prog) w B 43 9 ty 5 i Try.underlying43 Try.underlying9 hi hz hs hby _ l.length _ h (strOfNums t) (by unfold maxLen; omega) (by omega) hB
  rw [hsz, strCells_nums ht] at ho
  exact ⟨v', w', hr, by unfold Own; simpa using ho, (Below.refl B w).grown hg hB (fun k e => (World.ownsRow.lt h k e).1)⟩
/-- the state of the document's loop -/
structure ApI (b : List Int) (d : List Dop) (k f : Nat) (v : Value) (w X : World) : Prop where
  ef : f = frD (d.take k)
  z : f ≤ 268435456
  o : Own X w.heap.size v (runW b (d.take k)).2
  d : Below w.heap.size w X
end Go.Proofs.Ytifpjdodignflaa
end

section
namespace Go.Proofs.Ytifpjdodignflaa
open Go.ChangeShapes Go.WideShapes Go.ChangeAt Go.RowKit
attribute [local go_sem] Oper.semAt_some

/-- the state of the document's loop -/
structure InI (b : List Int) (d : List Dop) (k f : Nat) (M : List Dop) (a : Option Addr) (w X : World) : Prop where
  ef : f = frD (d.take k)
  l : M = (feedA b0 (dA (runV b (d.take k)).2)).fin
  o : IsO X a M
  d : Below w.heap.size w X
/-- one more, as add says -/
theorem add_snoc (e : List Dop) {x : Dop} (hk : x.k = 1 ∨ x.k = 2 ∨ x.k = 3) (hn : x.k ≠ 2 → 0 ≤ x.n) : addD (feedA b0 (dA e)).fin x.k (if x.k = 2 then 0 else x.n) (if x.k = 2 then x.t else []) = (feedA b0 (dA (e ++ [x]))).fin := by
  rw [add_op hk hn, dA_snoc]
end Go.Proofs.Ytifpjdodignflaa
end

section
namespace Go.Proofs.Ytifpjdodignflaa
open Go.ChangeShapes Go.WideShapes Go.ChangeAt Go.RowKit
def exD : List Dop := [⟨1, 2, []⟩, ⟨2, 0, [120, 121]⟩, ⟨3, 1, []⟩, ⟨1, 3, []⟩]
def exB : List Int := [97, 98, 99, 100, 101, 102]
def exI : List Dop := [⟨1, 2, []⟩, ⟨2, 0, [99]⟩, ⟨3, 2, []⟩, ⟨1, 3, []⟩]
theorem ex_val : valB exD = true ∧ frD exD = 6 ∧ toD exD = 7 := by decide
theorem ex_tb : ∀ o ∈ exD, TbD o := by
  show ∀ o ∈ exD, ∀ x ∈ o.t, 0 ≤ x ∧ x ≤ 255
  decide
theorem ex_ap : apD exB exD = [97, 98, 120, 121, 100, 101, 102] := by decide
theorem ex_fit : fitE exD exB.length = 0 := by unfold fitE; rw [ex_val.1, ex_val.2.1]; decide
theorem ex_inv : invD exB exD = exI := by unfold invD; rw [if_pos ex_fit]; decide
theorem ex_isO (w : World) : IsO (w.alloc (.cells #[.int .i64 1, .int .i64 2, .string ⟨#[]⟩, .int .i64 2, .int .i64 0, .string ⟨#[120, 121]⟩, .int .i64 3, .int .i64 1, .string ⟨#[]⟩, .int .i64 1, .int .i64 3, .string ⟨#[]⟩] 54)) (some ⟨w.heap.size, 0, none⟩) exD := by
  refine Or.inr ⟨_, _, rfl, by simp, fun k hk => ?_⟩
  have f : ∀ j, (w.alloc (.cells #[.int .i64 1, .int .i64 2, .string ⟨#[]⟩, .int .i64 2, .int .i64 0, .string ⟨#[120, 121]⟩, .int .i64 3, .int .i64 1, .string ⟨#[]⟩, .int .i64 1, .int .i64 3, .string ⟨#[]⟩] 54)).cell? ⟨w.heap.size, j, none⟩ = _ := fun j => World.cell?_alloc_mark w _ _ (0, 0) j
  have hk' : k = 0 ∨ k = 1 ∨ k = 2 ∨ k = 3 := by simp [exD] at hk; omega
  rcases hk' with rfl | rfl | rfl | rfl
  all_goals exact ⟨(f _).trans rfl, (f _).trans rfl, (f _).trans rfl⟩
theorem ex_isB (w : World) (X : World) (h : Below (w.heap.size + 1) (w.alloc (.cells #[.int .u8 97, .int .u8 98, .int .u8 99, .int .u8 100, .int .u8 101, .int .u8 102] 5 (6, 7))) X) : IsB X (some ⟨w.heap.size, 0, none⟩) 6 exB := by
  refine ⟨by decide, by decide, Or.inr ⟨_, _, rfl, fun i hi => ?_⟩, by decide⟩
  have hi' : i = 0 ∨ i = 1 ∨ i = 2 ∨ i = 3 ∨ i = 4 ∨ i = 5 := by simp [exB] at hi; omega
  have f : ∀ j, X.cell? ⟨w.heap.size, j, none⟩ = _ := fun j => (h.cell (p := ⟨w.heap.size, j, none⟩) (by show w.heap.size < _; omega)).trans (World.cell?_alloc_mark w _ _ (6, 7) j)
  rcases hi' with rfl | rfl | rfl | rfl | rfl | rfl
  all_goals exact ⟨(f _).trans rfl, by decide⟩

end Go.Proofs.Ytifpjdodignflaa
end

section
namespace Go.Proofs.Ytifpjdodignflaa
open Go.ChangeShapes Go.WideShapes Go.ChangeAt Go.RowKit
theorem str_ex : strOfNums [97, 98, 120, 121, 100, 101, 102] = ⟨#[97, 98, 120, 121, 100, 101, 102]⟩ := by decide
theorem str_c : strOfNums [99] = ⟨#[99]⟩ := by decide
theorem exLens (wb : World) (a : Option Addr) (c : Nat) (h : IsO wb a exD) :
    Calls Try.prog 35 #[.slice a 4 c] wb fun y w' => y = .returned (.tuple #[.int .i64 6, .int .i64 7, .int .i64 0]) ∧ Below wb.heap.size wb w' :=
  (Lens_at a c exD wb h (by decide)).mono fun y w' ⟨e, x⟩ => by
    unfold lensV at e
    rw [ex_val.1, ex_val.2.1, ex_val.2.2] at e
    exact ⟨e, x⟩
theorem exValid (wb : World) (a : Option Addr) (c : Nat) (h : IsO wb a exD) :
    Calls Try.prog 49 #[.slice a 4 c] wb fun y w' => y = .returned (.bool true) ∧ Below wb.heap.size wb w' :=
  (Valid_atD a c exD wb h (by decide)).mono fun y w' ⟨e, x⟩ => by
    rw [ex_val.1] at e
    exact ⟨e, x⟩
end Go.Proofs.Ytifpjdodignflaa
end

section
namespace Go.Proofs.Ytifpjdodignflaa
open Go.ChangeShapes Go.WideShapes Go.ChangeAt Go.RowKit
attribute [local go_sem] Oper.semAt_some

theorem Own.isB {w : World} {B : Nat} {v : Value} {l : List Int} (h : Own w B v l) (hl : ∀ x ∈ l, 0 ≤ x ∧ x ≤ 255) (hn : l.length ≤ 140737488351232) : ∃ a c, v = .slice a l.length c ∧ IsB w a c l := by
  have hh := h
  rcases h.2 with ⟨rfl, h0⟩ | ⟨g, cap, cur, rfl, _, _, hc, _⟩
  · have h0' : l = [] := List.length_eq_zero_iff.1 h0
    exact ⟨none, 0, by rw [h0], by omega, hn, Or.inl h0', hl⟩
  · exact ⟨some ⟨g, 0, none⟩, cap, rfl, hc, hn, Or.inr ⟨g, 0, rfl, hh.lies hl⟩, hl⟩
/-- the inverse is of bytes, if the old bytes are -/
theorem runV_tb {b : List Int} (hb : ∀ x ∈ b, 0 ≤ x ∧ x ≤ 255) (d : List Dop) : (∀ x ∈ (runV b d).1, 0 ≤ x ∧ x ≤ 255) ∧ ∀ o ∈ (runV b d).2, TbD o := by
  unfold runV
  have : ∀ (d : List Dop) (s : List Int × List Dop), ((∀ x ∈ s.1, 0 ≤ x ∧ x ≤ 255) ∧ ∀ o ∈ s.2, TbD o) → (∀ x ∈ (d.foldl stV s).1, 0 ≤ x ∧ x ≤ 255) ∧ ∀ o ∈ (d.foldl stV s).2, TbD o := by
    intro d
    induction d with
    | nil => intro s h; exact h
    | cons o r ih =>
      intro s h
      refine ih _ ?_
      unfold stV
      split
      · refine ⟨fun x hx => h.1 x (List.mem_of_mem_drop hx), fun q hq => ?_⟩
        rcases List.mem_append.1 hq with hq | hq
        · exact h.2 q hq
        · rw [List.mem_singleton.1 hq]; intro x hx; cases hx
      · split
        · refine ⟨h.1, fun q hq => ?_⟩
          rcases List.mem_append.1 hq with hq | hq
          · exact h.2 q hq
          · rw [List.mem_singleton.1 hq]; intro x hx; cases hx
        · refine ⟨fun x hx => h.1 x (List.mem_of_mem_drop hx), fun q hq => ?_⟩
          rcases List.mem_append.1 hq with hq | hq
          · exact h.2 q hq
          · rw [List.mem_singleton.1 hq]; intro x hx; exact h.1 x (List.mem_of_mem_take hx)
  exact this d (b, []) ⟨hb, fun o ho => by cases ho⟩

end Go.Proofs.Ytifpjdodignflaa
end

section
namespace Go.Proofs.Ytifpjdodignflaa
open Go.ChangeShapes Go.WideShapes Go.ChangeAt Go.RowKit
theorem runW_tb {b : List Int} (hb : ∀ x ∈ b, 0 ≤ x ∧ x ≤ 255) (d : List Dop) (hd : ∀ o ∈ d, TbD o) : (∀ x ∈ (runW b d).1, 0 ≤ x ∧ x ≤ 255) ∧ ∀ x ∈ (runW b d).2, 0 ≤ x ∧ x ≤ 255 := by
  unfold runW
  have : ∀ (d : List Dop), (∀ o ∈ d, TbD o) → ∀ (s : List Int × List Int), ((∀ x ∈ s.1, 0 ≤ x ∧ x ≤ 255) ∧ ∀ x ∈ s.2, 0 ≤ x ∧ x ≤ 255) → (∀ x ∈ (d.foldl stW s).1, 0 ≤ x ∧ x ≤ 255) ∧ ∀ x ∈ (d.foldl stW s).2, 0 ≤ x ∧ x ≤ 255 := by
    intro d
    induction d with
    | nil => intro _ s h; exact h
    | cons o r ih =>
      intro hd s h
      refine ih (fun q hq => hd q (List.mem_cons_of_mem _ hq)) _ ?_
      unfold stW
      split
      · refine ⟨fun x hx => h.1 x (List.mem_of_mem_drop hx), fun x hx => ?_⟩
        rcases List.mem_append.1 hx with hx | hx
        · exact h.2 x hx
        · exact h.1 x (List.mem_of_mem_take hx)
      · split
        · refine ⟨h.1, fun x hx => ?_⟩
          rcases List.mem_append.1 hx with hx | hx
          · exact h.2 x hx
          · exact hd o List.mem_cons_self x hx
        · exact ⟨fun x hx => h.1 x (List.mem_of_mem_drop hx), h.2⟩
  exact this d hd (b, []) ⟨hb, fun o ho => by cases ho⟩
def apE (b : List Int) (d : List Dop) : List Int := if fitE d b.length = 0 then apD b d else []
theorem apE_tb {b : List Int} (hb : ∀ x ∈ b, 0 ≤ x ∧ x ≤ 255) {d : List Dop} (hd : ∀ o ∈ d, TbD o) : (∀ x ∈ apE b d, 0 ≤ x ∧ x ≤ 255) ∧ (apE b d).length ≤ 140737488351232 := by
  unfold apE
  rcases fit_cases d b.length with ⟨hv, he⟩ | ⟨hv, hf, he, _⟩ | ⟨hv, hf, he⟩
  · rw [he, if_neg (by decide)]; exact ⟨fun x hx => (by cases hx), by simp⟩
  · rw [he, if_neg (by decide)]; exact ⟨fun x hx => (by cases hx), by simp⟩
  · rw [he, if_pos rfl, ap_len hv hf]
    exact ⟨(runW_tb hb d hd).2, by have := (valB_nn hv).2; omega⟩
end Go.Proofs.Ytifpjdodignflaa
end
