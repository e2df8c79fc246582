/- LeafBorders: the walk (written by wip/tools/lbo.py). -/
import Derived.Test.YtfkcphgolbfdjaaDoorLbp
namespace Go.Proofs.YtfkcphgolbfdjaaDoor
open Go.ChangeShapes Go.WideShapes Go.ChangeAt Go.RowKit
attribute [local go_sem] Oper.semAt_some

/-- what lies there: the leaves -/
structure BoS (w : World) (gs : List Nat) (ps : List (List Int)) (v : Value) (X : World) : Prop where
  d : Below w.heap.size w X
  l : Lvs X w.heap.size gs ps
  r : X.ownsRow w.heap.size 32 1 v gs.length (ptrs gs)
theorem BoS.on {w : World} {gs : List Nat} {ps : List (List Int)} {v : Value} {X Y : World} (h : BoS w gs ps v X) (hb : Below X.heap.size X Y) : BoS w gs ps v Y :=
  ⟨h.d.trans (hb.mono h.d.size), h.l.on hb, h.r.kept (row := none) ⟨hb.os, hb.tape, hb.output, hb.size, fun j hj _ => hb.block j hj⟩ (by cases hv : v.ownBlock <;> simp)⟩
theorem ptrs_get {gs : List Nat} {k : Nat} (hk : k < gs.length) : (ptrs gs)[k]? = some (.pointer (some ⟨gs.getD k 0, 0, none⟩)) := by
  simp [ptrs, List.getElem?_eq_getElem hk, List.getD]
theorem row_lf {X : World} {B : Nat} {v : Value} {gs : List Nat} (h : X.ownsRow B 32 1 v gs.length (ptrs gs)) : ∃ a c, v = .slice a gs.length c := by
  rcases h.2 with ⟨rfl, h0⟩ | ⟨g, cap, cur, rfl, _⟩
  · exact ⟨none, 0, by rw [h0]⟩
  · exact ⟨_, cap, rfl⟩
theorem row_at {X : World} {B c : Nat} {a : Option Addr} {gs : List Nat} (h : X.ownsRow B 32 1 (.slice a gs.length c) gs.length (ptrs gs)) {k : Nat} (hk : k < gs.length) : ∃ g, a = some ⟨g, 0, none⟩ ∧ X.cell? ⟨g, k, none⟩ = some (.pointer (some ⟨gs.getD k 0, 0, none⟩)) := by
  have hc := h
  rcases h.2 with ⟨e, h0⟩ | ⟨g, cap, cur, e, _⟩
  · omega
  · cases e
    refine ⟨g, rfl, ?_⟩
    have := World.ownsRow.cells hc rfl k _ (ptrs_get hk)
    rwa [Addr.add_lit, Nat.zero_add] at this

theorem row_base {X : World} {B B' s n : Nat} {t : TypeId} {v : Value} {xs : List Value} (h : X.ownsRow B t s v n xs) (hB : B' ≤ B) : X.ownsRow B' t s v n xs := by
  refine ⟨h.1, ?_⟩
  rcases h.2 with hn | ⟨g, cap, cur, e, hb, rest⟩
  · exact .inl hn
  · exact .inr ⟨g, cap, cur, e, Nat.le_trans hB hb, rest⟩
theorem fldW (a b c d e f : Value) (w : World) : (Instr.field 38 (.agg #[a, b, c, d, e, f]) 0).run Tryd.prog w = .ok (.agg #[a, b, c, d]) w := by kernel_rfl
theorem fldR (a b c d : Value) (w : World) : (Instr.field 36 (.agg #[a, b, c, d]) 1).run Tryd.prog w = .ok b w := by kernel_rfl
theorem fldU (a b c d : Value) (w : World) : (Instr.field 36 (.agg #[a, b, c, d]) 2).run Tryd.prog w = .ok c w := by kernel_rfl
attribute [local go_sem] fldW fldR fldU
theorem wrapB (n : Int) (h0 : -9223372036854775808 ≤ n) (h1 : n ≤ 9223372036854775807) : wrap64 n = n := by unfold wrap64; omega
theorem rn_le (l : List Int) : rnN l ≤ l.length := spots_le l
theorem un_le (l : List Int) : 0 ≤ unN l ∧ unN l ≤ 2 * (l.length : Int) := by
  have h1 := usum_in l (spots l 0)
  have h2 := spots_le l
  unfold unN
  omega

set_option maxRecDepth 100000 in
set_option maxHeartbeats 8000000 in
theorem LeafBorders_any (a0 : Option Addr) (cap : Nat) (l : List Int) (m : Int) (w : World) (hB : IsN w a0 cap l) (_hk : (Lit.int .i64 m).wf = true) (hW : Wt w) :
    Calls Tryd.prog 4 #[.slice a0 l.length cap, .int .i64 m] w fun e w' => e = .returned (.bool true) ∧ Below w.heap.size w w' := by
  clear _hk
  have HLB := hide hB.1.2.2.2
  have hnb := hB.1.2.1
  have HAB := hide (And.intro hB hW)
  clear hB hW
  go_enter Tryd.func4, Tryd.ntmps4
  go_wp2_with fail
  refine (fixed8_at w (unhide HAB).2).mono ?_
  rintro e w1 ⟨rfl, b1⟩
  by_cases hm : m < 4 ∨ 4096 < m
  · have HT : Hid ((decide (m < 4) = true) ∨ (decide (m < 4) = false ∧ decide (m > 4096) = true ∧ decide (4096 < m) = true)) := hide (by
      by_cases h1 : m < 4
      · exact Or.inl (decide_eq_true h1)
      · exact Or.inr ⟨decide_eq_false h1, decide_eq_true (by omega), decide_eq_true (by omega)⟩)
    clear hm
    rcases unhide HT with t1 | ⟨t1, t2, t3⟩
    all_goals
      go_wp2_with fail
      go_ret
      exact ⟨rfl, b1⟩
  obtain ⟨n, rfl⟩ : ∃ n : Nat, m = (n : Int) := ⟨m.toNat, by omega⟩
  have hn4 : 4 ≤ n := by omega
  have hn5 : n ≤ 4096 := by omega
  have t1 : decide ((n : Int) < 4) = false := decide_eq_false (by omega)
  have t1' : decide (n < 4) = false := decide_eq_false (by omega)
  have t2 : decide ((n : Int) > 4096) = false := decide_eq_false (by omega)
  have t3 : decide ((4096 : Int) < (n : Int)) = false := decide_eq_false (by omega)
  have t3' : decide (4096 < n) = false := decide_eq_false (by omega)
  obtain ⟨v2, w2, r2, o2, x2⟩ := run_copy_own w1 a0 cap l 22 ((unhide HAB).1.below b1 (Nat.le_refl _)).1
  obtain ⟨a2, c2, rfl, n2⟩ := own_isN o2 (unhide HLB) hnb
  have b2 := b1.trans (x2.mono b1.size)
  have R2 := hide r2
  have hW2 := (unhide HAB).2.below b2
  clear r2 o2 x2 b1 hm
  dsimp only
  go_wp2_with (at_builtin; refine wpList_append_known rfl _ _ 22 22 rfl _ _ rfl rfl _ _ (unhide R2) ?_)
  clear t1 t2 t3 t1' t3' R2
  by_cases hl : 268435456 < l.length
  · have t4 : decide ((l.length : Int) > 268435456) = true := decide_eq_true (by omega)
    have t5 : decide ((268435456 : Int) < (l.length : Int)) = true := decide_eq_true (by omega)
    have t6 : decide (268435456 < l.length) = true := decide_eq_true hl
    refine (CutLong_at a2 l.length c2 n w2 (by omega) hn5 hl).mono ?_
    rintro e w3 ⟨rfl, rfl⟩
    clear hl
    go_wp2_with fail
    go_ret
    exact ⟨rfl, b2⟩
  have hl2 : l.length ≤ 268435456 := by omega
  clear hl
  refine (Cut_at a2 c2 l n w2 n2 hW2 (by omega) hn5 hl2).mono ?_
  rintro e w3 ⟨v3, gs, rfl, o3, k3, x3⟩
  have hpl := pcs_len (l := l) (m := n) (by omega)
  have HGL0 := hide k3.1
  have zz := b2.size
  have S3 : BoS w gs (pcs l n) v3 w3 := ⟨b2.trans (x3.mono b2.size), ⟨k3.1, fun i hi => ⟨(k3.2 i hi).1, Nat.le_trans zz (k3.2 i hi).2⟩⟩, row_base o3 zz⟩
  obtain ⟨aC, cC, rfl⟩ := row_lf o3
  clear k3 x3 o3 b2 n2 hW2 zz
  go_wp2_with fail
  generalize hNN : gs.length = N at *
  have HNN := hide hNN
  have HGL : Hid (N = (pcs l n).length) := HGL0
  clear hNN HGL0
  have hNl : N ≤ 268435456 := by have := unhide HGL; omega
  clear hpl
  go_loopw [7, 8, 9, 10, 11, 36] (fun vt vr vu vi vl vk wx => ∃ k b : Nat, vk = .int .i64 (k : Int) ∧ k ≤ N ∧ vt = .int .i64 (b : Int) ∧ vr = .int .i64 (rnN (l.take b) : Int) ∧ vu = .int .i64 (unN (l.take b)) ∧ (∃ z, vi = z) ∧ (∃ z, vl = z) ∧ Hid (CbI l n k b) ∧ Hid (BoS w gs (pcs l n) (.slice aC N cC) wx)) (fun _ _ _ _ _ vk _ => N - (intOf vk).toNat)
  case atStart => exact ⟨0, 0, rfl, Nat.zero_le _, rfl, rfl, rfl, ⟨_, rfl⟩, ⟨_, rfl⟩, hide (CbI.zero l n), hide S3⟩
  case round =>
    clear S3
    obtain ⟨k, b, rfl, hk, rfl, rfl, rfl, ⟨z1, rfl⟩, ⟨z2, rfl⟩, HI, HS⟩ := hrel
    by_cases hlt : k < N
    · have t1 : decide ((k : Int) < (N : Int)) = true := decide_eq_true (by omega)
      obtain ⟨hbl, hpc, hI2, hmore⟩ := (unhide HI).next hn4 (by have := unhide HGL; omega)
      obtain ⟨gC, rfl, c1⟩ := row_at (gs := gs) (by have := (unhide HS).r; rw [← unhide HNN] at this; exact this) (k := k) (by rw [unhide HNN]; exact hlt)
      obtain ⟨e1, e2⟩ := bdr_in hbl (show 1 ≤ n by omega)
      obtain ⟨e3, e4⟩ := bdr_size (l := l) hn4 (Nat.le_of_lt hbl)
      obtain ⟨s1, s2⟩ := sz_piece (unhide HLB) (Nat.le_of_lt e1) e2 (unhide HI).e
      have hplen : ((l.take (bdr l b n)).drop b).length = bdr l b n - b := by simp; omega
      have HLF : Hid (∀ X, BoS w gs (pcs l n) (.slice (some ⟨gC, 0, none⟩) N cC) X → IsLf X (gs.getD k 0) ((l.take (bdr l b n)).drop b)) := hide fun X h => by
        have := (h.l.2 k (by rw [unhide HNN]; exact hlt)).1
        rwa [hpc] at this
      have hedge : edgeB l (b : Int) = true := by
        unfold edgeB
        rw [Int.toNat_natCast, (unhide HI).e]
        simp
        omega
      have HEd := hide fun X j => REdge_at a0 cap (b : Int) l X j
      rw [hedge] at HEd
      have HI3 := hide hI2
      have b1 : rnN (l.take b) ≤ 268435456 := by have := (rn_le (l.take b)); simp at this; omega
      have b2 : -1 ≤ unN (l.take b) ∧ unN (l.take b) ≤ 536870912 := by have := un_le (l.take b); simp at this; omega
      have b3 : (szL ((l.take (bdr l b n)).drop b)).r ≤ 268435456 ∧ 0 ≤ (szL ((l.take (bdr l b n)).drop b)).r := by have := rn_le ((l.take (bdr l b n)).drop b); rw [hplen] at this; show ((rnN _ : Nat) : Int) ≤ _ ∧ 0 ≤ ((rnN _ : Nat) : Int); omega
      have b4 : (szL ((l.take (bdr l b n)).drop b)).u ≤ 536870912 ∧ -1 ≤ (szL ((l.take (bdr l b n)).drop b)).u := by have := un_le ((l.take (bdr l b n)).drop b); rw [hplen] at this; show unN _ ≤ _ ∧ _ ≤ unN _; omega
      have HSM := hide (And.intro s1 s2)
      have HW : Hid (wrap64 ((rnN (l.take b) : Int) + (szL ((l.take (bdr l b n)).drop b)).r) = (rnN (l.take b) : Int) + (szL ((l.take (bdr l b n)).drop b)).r ∧ wrap64 (unN (l.take b) + (szL ((l.take (bdr l b n)).drop b)).u) = unN (l.take b) + (szL ((l.take (bdr l b n)).drop b)).u) := hide ⟨wrapB _ (by omega) (by omega), wrapB _ (by omega) (by omega)⟩
      have HWe := hide fun X h => WeldL_at (gs.getD k 0) ((l.take (bdr l b n)).drop b) X h
      rw [we_of] at HWe
      have HLn := hide fun X h => LenL_at (gs.getD k 0) ((l.take (bdr l b n)).drop b) X h
      rw [hplen] at HLn
      clear hedge hI2 s1 s2 hplen hpc b1 b2 b3 b4
      generalize hee : bdr l b n = e at *
      clear hee
      have hd1 : ((e - b : Nat) : Int) ≤ (n : Int) := by omega
      have u1 : decide (((e - b : Nat) : Int) > (n : Int)) = false := decide_eq_false (by omega)
      have u1' : decide ((n : Int) < ((e - b : Nat) : Int)) = false := decide_eq_false (by omega)
      have u1n : decide (n < e - b) = false := decide_eq_false (by omega)
      have u2 : decide (((e - b : Nat) : Int) < 1) = false := decide_eq_false (by omega)
      have u2n : decide (e - b < 1) = false := decide_eq_false (by omega)
      have hwk : wrap64 ((k : Int) + 1) = (k : Int) + 1 := wrapB _ (by omega) (by omega)
      have hwn : wrap64 ((n : Int) - 3) = (n : Int) - 3 := wrapB _ (by omega) (by omega)
      have hwe : wrap64 ((b : Int) + ((e - b : Nat) : Int)) = (e : Int) := by rw [wrapB _ (by omega) (by omega)]; omega
      have HT : Hid (decide ((k : Int) + 1 < (N : Int)) = false ∨ (decide ((k : Int) + 1 < (N : Int)) = true ∧ decide (((e - b : Nat) : Int) < (n : Int) - 3) = false)) := hide (by
        by_cases h5 : k + 1 < N
        · have h6 := e4 (hmore (by have := unhide HGL; omega))
          exact Or.inr ⟨decide_eq_true (by omega), decide_eq_false (by omega)⟩
        · exact Or.inl (decide_eq_false (by omega)))
      generalize (l.take e).drop b = pc at *
      generalize gs.getD k 0 = gp at *
      generalize (szL pc).r = pr at *
      generalize (szL pc).u = pu at *
      clear e1 e2 e3 e4 hmore hd1 hbl HI
      go_wp2_with fail
      clear c1
      refine (unhide HEd _ ((unhide HAB).1.below (unhide HS).d (Nat.le_refl _)).1).mono ?_
      rintro y y1 ⟨rfl, hy1⟩
      rw [hy1]
      clear hy1 y1
      go_wp2_with fail
      refine (unhide HLn _ (unhide HLF _ (unhide HS))).mono ?_
      rintro y y1 ⟨rfl, hy1⟩
      rw [hy1]
      clear hy1 y1
      go_wp2_with fail
      refine (unhide HLn _ (unhide HLF _ (unhide HS))).mono ?_
      rintro y y1 ⟨rfl, hy1⟩
      rw [hy1]
      clear hy1 y1
      rcases unhide HT with v1 | ⟨v1, v2⟩
      case inl =>
        go_wp2_with fail
        refine (unhide HLn _ (unhide HLF _ (unhide HS))).mono ?_
        rintro y y1 ⟨rfl, hy1⟩
        rw [hy1]
        clear hy1 y1
        go_wp2_with fail
        refine (unhide HWe _ (unhide HLF _ (unhide HS))).mono ?_
        rintro y y2 ⟨rfl, x2⟩
        have HS2 := hide ((unhide HS).on x2)
        clear x2 HS
        go_wp2_with fail
        refine (unhide HWe _ (unhide HLF _ (unhide HS2))).mono ?_
        rintro y y3 ⟨rfl, x3⟩
        have HS3 := hide ((unhide HS2).on x3)
        clear x3 HS2
        go_wp2_with fail
        go_roundw
        case rel => exact ⟨k + 1, e, by go_num, hlt, by first | rfl | rw [hwe], by rw [(unhide HW).1, (unhide HSM).1], by rw [(unhide HW).2, (unhide HSM).2], ⟨_, rfl⟩, ⟨_, rfl⟩, HI3, HS3⟩
        case measure => simp [intOf]; omega
      case inr =>
        go_wp2_with fail
        refine (unhide HLn _ (unhide HLF _ (unhide HS))).mono ?_
        rintro y y1 ⟨rfl, hy1⟩
        rw [hy1]
        clear hy1 y1
        go_wp2_with fail
        refine (unhide HLn _ (unhide HLF _ (unhide HS))).mono ?_
        rintro y y1 ⟨rfl, hy1⟩
        rw [hy1]
        clear hy1 y1
        go_wp2_with fail
        refine (unhide HWe _ (unhide HLF _ (unhide HS))).mono ?_
        rintro y y2 ⟨rfl, x2⟩
        have HS2 := hide ((unhide HS).on x2)
        clear x2 HS
        go_wp2_with fail
        refine (unhide HWe _ (unhide HLF _ (unhide HS2))).mono ?_
        rintro y y3 ⟨rfl, x3⟩
        have HS3 := hide ((unhide HS2).on x3)
        clear x3 HS2
        go_wp2_with fail
        go_roundw
        case rel => exact ⟨k + 1, e, by go_num, hlt, by first | rfl | rw [hwe], by rw [(unhide HW).1, (unhide HSM).1], by rw [(unhide HW).2, (unhide HSM).2], ⟨_, rfl⟩, ⟨_, rfl⟩, HI3, HS3⟩
        case measure => simp [intOf]; omega
    · obtain rfl : k = N := by omega
      have t1 : decide ((k : Int) < (k : Int)) = false := decide_eq_false (by omega)
      have hbe : b = l.length := (show CbI l n (pcs l n).length b by rw [← unhide HGL]; exact unhide HI).end
      subst hbe
      have HBx := hide ((unhide HAB).1.below (unhide HS).d (Nat.le_refl _)).1
      have HD := hide (unhide HS).d
      clear HS HI
      have hrn : (rnN (l.take l.length) : Int) = (szL l).r := by rw [List.take_length]; rfl
      have hun : unN (l.take l.length) = (szL l).u := by rw [List.take_length]; rfl
      rw [hrn, hun]
      clear hrn hun
      have hSz := fun X (j : IsB X a0 cap l) => RSizes_at a0 cap l X j hl2
      unfold szV at hSz
      generalize (szL l).r = zr at *
      generalize (szL l).u = zu at *
      generalize (szL l).b = zb at *
      generalize (szL l).e = ze at *
      go_wp2_with fail
      refine (hSz _ (unhide HBx)).mono ?_
      rintro y y1 ⟨rfl, x1⟩
      have x2 := (Below.refl y1.heap.size y1).alloc (Nat.le_refl _) (.cells #[.int .i64 zb, .int .i64 zr, .int .i64 zu, .int .i64 ze] 36)
      have g2 := push_get y1 (.cells #[.int .i64 zb, .int .i64 zr, .int .i64 zu, .int .i64 ze] 36)
      have HD2 := hide ((unhide HD).trans ((x1.trans (x2.mono x1.size)).mono (unhide HD).size))
      clear hSz x1 x2
      obtain ⟨q0, q1, q2, q3, _⟩ := cells4 g2
      clear g2
      go_wp2_with fail
      go_ret
      exact ⟨rfl, unhide HD2⟩

end Go.Proofs.YtfkcphgolbfdjaaDoor
