/- Layer 10: contracts of seek's open and settledFrom. -/
import Derived.Test.YteamaneompijkaaGreatDoorSo40
import Derived.Test.YteamaneompijkaaGreatDoorSo42
namespace Go.Proofs.YteamaneompijkaaGreatDoor
open Go.ChangeShapes Go.WideShapes Go.ChangeAt Go.RowKit
set_option maxRecDepth 100000
set_option maxHeartbeats 8000000
attribute [local go_sem] Oper.semAt_some
theorem open10_at (t : List Int) (w : World) (ht : ∀ x ∈ t, 0 ≤ x ∧ x ≤ 255) (hl : t.length ≤ 3) (hW : Wt w) :
    Calls Tryz.prog 112 #[.string (strOfNums t)] w fun y w' => y = .returned (.int .i64 (leftL t : Int)) ∧ Below w.heap.size w w' := by
  have hel : Hel [] := .inl rfl
  have hlf := left_held (h := []) (b := t) hel
  rw [List.nil_append] at hlf
  have HLF := hide hlf
  have HT := hide fun (X : World) (hx : Below w.heap.size w X) => (hW.below hx).1
  have HY := hide ht
  have HL := hide hl
  have HN := hide (ScNew_at w)
  clear hlf hW ht hl
  go_enter Tryz.func112, Tryz.ntmps112
  go_wp2_with fail
  refine (unhide HN).mono ?_
  rintro y w1 ⟨g, rfl, hg, hS, x1⟩
  dsimp only
  obtain ⟨c, W', r1, i1, x2, hlt⟩ := toBytes w1 t (unhide HY) (by have := unhide HL; omega)
  have hgl := hS.lt
  have hS2 := hS.below x2 hgl
  have X2 := x1.trans (x2.mono x1.size)
  have HF := hide (Feed_at g [] t 0 (some ⟨w1.heap.size, 0, none⟩) c W' hS2 hel (unhide HT W' X2) i1.1 (fun a e => by cases e; exact ⟨hlt, by show w1.heap.size ≠ g; omega⟩) (by have := unhide HL; omega) (by omega) (by omega))
  have HG := hide hg
  clear hel HN hS hS2 i1 x1 x2 hlt hgl hg
  go_wp2_with fail
  refine (unhide HF).mono ?_
  rintro y w3 ⟨v, rfl, _, hS3, x3⟩
  dsimp only
  have X3 : Below w.heap.size w w3 := X2.trans ((x3.mono X2.size).below (unhide HG))
  have HH := hide (Held_at g _ _ w3 hS3)
  rw [← unhide HLF] at HH
  clear HF hS3 x3 X2 r1
  go_wp2_with fail
  refine (unhide HH).mono ?_
  rintro y w4 ⟨rfl, rfl⟩
  dsimp only
  go_wp2_with fail
  go_ret
  exact ⟨rfl, X3⟩
theorem setf10_of (gu gp : Nat) (u place zb zr zu ze szT lf : Int) (zh zt : ByteArray) (w : World) (hu : Cb w gu 25 (.int .i64 u)) (hp : Cb w gp 3 (.int .i64 place))
    (HBy : Hid (∀ X, Below w.heap.size w X → Calls Tryz.prog 51 #[.agg #[.int .i64 zb, .int .i64 zr, .int .i64 zu, .int .i64 ze], .int .i64 u] X fun y w' => y = .returned (.int .i64 szT) ∧ Below X.heap.size X w'))
    (HOp : Hid (∀ X, Below w.heap.size w X → Calls Tryz.prog 112 #[.string zt] X fun y w' => y = .returned (.int .i64 lf) ∧ Below X.heap.size X w')) (w1 : wrap64 (szT - lf) = szT - lf) :
    Calls Tryz.prog 111 #[.agg #[.int .i64 zb, .int .i64 zr, .int .i64 zu, .int .i64 ze, .string zh, .string zt], .pointer (some ⟨gu, 0, none⟩), .pointer (some ⟨gp, 0, none⟩)] w fun y w' => y = .returned (.bool (decide (place ≤ szT - lf))) ∧ Below w.heap.size w w' := by
  have b0 := (Below.refl w.heap.size w).alloc (Nat.le_refl _) (.cells #[.int .i64 zb, .int .i64 zr, .int .i64 zu, .int .i64 ze, .string zh, .string zt] 47)
  have g0 := push_get w (.cells #[.int .i64 zb, .int .i64 zr, .int .i64 zu, .int .i64 ze, .string zh, .string zt] 47)
  have hu0 := hu.on b0
  have hp0 := hp.on b0
  obtain ⟨gB, hgB⟩ : ∃ gB, gB = w.heap.size := ⟨_, rfl⟩
  go_enter Tryz.func111, Tryz.ntmps111
  go_upto_region 1 with fail
  generalize w.alloc (.cells #[.int .i64 zb, .int .i64 zr, .int .i64 zu, .int .i64 ze, .string zh, .string zt] 47) = w0 at *
  have hgB' : w0.heap[gB]? = some (.cells #[.int .i64 zb, .int .i64 zr, .int .i64 zu, .int .i64 ze, .string zh, .string zt] 47 (0, 0)) := by rw [hgB]; exact g0
  rw [← hgB]
  have HSW : Hid (∀ X, Below w0.heap.size w0 X → X.cell? ⟨gB, 0, none⟩ = some (.int .i64 zb) ∧ X.cell? ⟨gB, 1, none⟩ = some (.int .i64 zr) ∧ X.cell? ⟨gB, 2, none⟩ = some (.int .i64 zu) ∧ X.cell? ⟨gB, 3, none⟩ = some (.int .i64 ze) ∧ X.cell? ⟨gB, 5, none⟩ = some (.string zt) ∧ X.cell? ⟨gu, 0, none⟩ = some (.int .i64 u) ∧ X.cell? ⟨gp, 0, none⟩ = some (.int .i64 place)) := hide fun X hx => by
    obtain ⟨c0, c1, c2, c3, _, c5, _⟩ := cells6 (bk9_on hgB' hx)
    exact ⟨c0, c1, c2, c3, c5, (hu0.on hx).cell, (hp0.on hx).cell⟩
  have HBy := hide fun X (hx : Below w0.heap.size w0 X) => unhide HBy X (b0.trans (hx.mono b0.size))
  have HOp := hide fun X (hx : Below w0.heap.size w0 X) => unhide HOp X (b0.trans (hx.mono b0.size))
  have D0 : Below w0.heap.size w0 w0.drew := (Below.refl _ _).drew
  have HB0 := hide b0
  clear hu0 hp0 hgB hgB' g0 b0 hu hp
  refine regionL (S := fun w' => w'.cell? ⟨gB, 0, none⟩ = some (.int .i64 zb) ∧ w'.cell? ⟨gB, 1, none⟩ = some (.int .i64 zr) ∧ w'.cell? ⟨gB, 2, none⟩ = some (.int .i64 zu) ∧ w'.cell? ⟨gB, 3, none⟩ = some (.int .i64 ze) ∧ w'.cell? ⟨gB, 5, none⟩ = some (.string zt) ∧ w'.cell? ⟨gu, 0, none⟩ = some (.int .i64 u) ∧ w'.cell? ⟨gp, 0, none⟩ = some (.int .i64 place)) (fun _ => false) (by kernel_rfl) ?_
  generalize w0.drew = y0 at *
  refine anyL_take (i := 0) (v := ?vst0) rfl (by kernel_rfl) (by kernel_rfl) (by kernel_rfl) (by kernel_rfl) (fun _ _ _ h => h) (Or.inl ⟨by rfl, ?hst0⟩) (unhide HSW _ D0) ?_
  case hst0 => (intro w hSw; (try dsimp only at hSw); go_simp) <;> with_reducible rfl
  simp only [Act.put, List.getElem_toArray, List.getElem_cons_zero, List.setIfInBounds_toArray, List.set_cons_zero, List.set_cons_succ]
  refine anyL_take (i := 1) (v := ?vst1) rfl (by kernel_rfl) (by kernel_rfl) (by kernel_rfl) (by kernel_rfl) (fun _ _ _ h => h) (Or.inl ⟨by rfl, ?hst1⟩) (unhide HSW _ D0) ?_
  case hst1 => (intro w hSw; (try dsimp only at hSw); go_simp) <;> with_reducible rfl
  simp only [Act.put, List.getElem_toArray, List.getElem_cons_zero, List.getElem_cons_succ, List.setIfInBounds_toArray, List.set_cons_zero, List.set_cons_succ]
  refine anyL_take (i := 2) (v := ?vst2) rfl (by kernel_rfl) (by kernel_rfl) (by kernel_rfl) (by kernel_rfl) (fun _ _ _ h => h) (Or.inl ⟨by rfl, ?hst2⟩) (unhide HSW _ D0) ?_
  case hst2 => (intro w hSw; (try dsimp only at hSw); go_simp) <;> with_reducible rfl
  simp only [Act.put, List.getElem_toArray, List.getElem_cons_zero, List.getElem_cons_succ, List.setIfInBounds_toArray, List.set_cons_zero, List.set_cons_succ]
  refine anyL_take (i := 4) (v := ?vst3) rfl (by kernel_rfl) (by kernel_rfl) (by kernel_rfl) (by kernel_rfl) (fun _ _ _ h => h) (Or.inl ⟨by rfl, ?hst3⟩) (unhide HSW _ D0) ?_
  case hst3 => (intro w hSw; (try dsimp only at hSw); go_simp) <;> with_reducible rfl
  simp only [Act.put, List.getElem_toArray, List.getElem_cons_zero, List.getElem_cons_succ, List.setIfInBounds_toArray, List.set_cons_zero, List.set_cons_succ]
  refine anyL_take (i := 5) (v := ?vst4) rfl (by kernel_rfl) (by kernel_rfl) (by kernel_rfl) (by kernel_rfl) (fun _ _ _ h => h) (Or.inl ⟨by rfl, ?hst4⟩) (unhide HSW _ D0) ?_
  case hst4 => (intro w hSw; (try dsimp only at hSw); go_simp) <;> with_reducible rfl
  simp only [Act.put, List.getElem_toArray, List.getElem_cons_zero, List.getElem_cons_succ, List.setIfInBounds_toArray, List.set_cons_zero, List.set_cons_succ]
  refine anyL_take (i := 8) (v := ?vst5) rfl (by kernel_rfl) (by kernel_rfl) (by kernel_rfl) (by kernel_rfl) (fun _ _ _ h => h) (Or.inl ⟨by rfl, ?hst5⟩) (unhide HSW _ D0) ?_
  case hst5 => (intro w hSw; (try dsimp only at hSw); go_simp) <;> with_reducible rfl
  simp only [Act.put, List.getElem_toArray, List.getElem_cons_zero, List.getElem_cons_succ, List.setIfInBounds_toArray, List.set_cons_zero, List.set_cons_succ]
  refine anyL_ready (rs := [3]) (by kernel_rfl) (by simp) ?_
  refine AllL.cons rfl (fun K hK => ?_) AllL.nil
  go_simp
  refine (unhide HBy _ D0).mono ?_
  rintro e y1 ⟨rfl, xy1⟩
  have D1 := D0.trans (xy1.mono D0.size)
  refine unhide hK _ _ (fun _ => unhide HSW _ D1) ?_
  clear hK K xy1
  refine anyL_ready (rs := [6]) (by kernel_rfl) (by simp) ?_
  refine AllL.cons rfl (fun K hK => ?_) AllL.nil
  go_simp
  refine (unhide HOp _ D1).mono ?_
  rintro e y2 ⟨rfl, xy2⟩
  have D2 := D1.trans (xy2.mono D1.size)
  refine unhide hK _ _ (fun _ => unhide HSW _ D2) ?_
  clear hK K xy2
  refine anyL_take (i := 7) (v := ?vst6) rfl (by kernel_rfl) (by kernel_rfl) (by kernel_rfl) (by kernel_rfl) (fun _ _ _ h => h) (Or.inl ⟨by rfl, ?hst6⟩) (unhide HSW _ D2) ?_
  case hst6 => (intro w hSw; (try dsimp only at hSw); go_simp) <;> with_reducible rfl
  simp only [Act.put, List.getElem_toArray, List.getElem_cons_zero, List.getElem_cons_succ, List.setIfInBounds_toArray, List.set_cons_zero, List.set_cons_succ]
  refine anyL_take (i := 9) (v := ?vst7) rfl (by kernel_rfl) (by kernel_rfl) (by kernel_rfl) (by kernel_rfl) (fun _ _ _ h => h) (Or.inl ⟨by rfl, ?hst7⟩) (unhide HSW _ D2) ?_
  case hst7 => (intro w hSw; (try dsimp only at hSw); go_simp) <;> with_reducible rfl
  simp only [Act.put, List.getElem_toArray, List.getElem_cons_zero, List.getElem_cons_succ, List.setIfInBounds_toArray, List.set_cons_zero, List.set_cons_succ]
  refine anyL_take (i := 10) (v := ?vst8) rfl (by kernel_rfl) (by kernel_rfl) (by kernel_rfl) (by kernel_rfl) (fun _ _ _ h => h) (Or.inl ⟨by rfl, ?hst8⟩) (unhide HSW _ D2) ?_
  case hst8 => (intro w hSw; (try dsimp only at hSw); go_simp) <;> with_reducible rfl
  simp only [Act.put, List.getElem_toArray, List.getElem_cons_zero, List.getElem_cons_succ, List.setIfInBounds_toArray, List.set_cons_zero, List.set_cons_succ]
  refine anyL_done (by kernel_rfl) ?_ _
  obtain ⟨q0, q1, q2, q3, q5, qu, qp⟩ := unhide HSW _ D2
  go_wp2_with fail
  go_ret
  exact ⟨ret_bool (by rw [show IntKind.i64.wrap (szT - lf) = szT - lf from (IntKind.wrap_i64 _).trans (by unfold wrap64 at w1; exact w1)]), (unhide HB0).trans (D2.mono (unhide HB0).size)⟩
theorem stepS_len (h : List Int) (x : Int) : (stepS h x).2.length ≤ h.length + 1 := by
  have ho : (one x).2.length ≤ 1 := by
    rcases one_ways x with ⟨_, e⟩ | ⟨_, e⟩ | ⟨_, e⟩ <;> rw [e] <;> simp
  unfold stepS
  split
  · omega
  · split
    · split
      · simp
      · simp
    · simp; omega
theorem left_step (T : List Int) {n : Nat} (h : n < T.length) : leftL (T.take (n + 1)) ≤ leftL (T.take n) + 1 := by
  have hel : Hel [] := .inl rfl
  have h1 := left_held (h := []) (b := T.take n) hel
  have h2 := left_held (h := []) (b := T.take (n + 1)) hel
  rw [List.nil_append] at h1 h2
  rw [h1, h2, take_oneS T h, scanS_append]
  exact stepS_len _ _
theorem left_back (T : List Int) (i : Nat) : ∀ d, i + d ≤ T.length → i - leftL (T.take i) ≤ i + d - leftL (T.take (i + d))
  | 0, _ => Nat.le_refl _
  | d + 1, h => by
    have h1 := left_back T i d (by omega)
    have h2 := left_step T (n := i + d) (by omega)
    rw [show i + (d + 1) = i + d + 1 from rfl]
    omega
theorem set_mono {T : List Int} (hl : ∀ x ∈ T, 0 ≤ x ∧ x ≤ 255) {u place : Int} (hu : isRu u = true) {i j : Nat} (hij : i ≤ j) (hj : j ≤ T.length) (h : setB u place (T.take i) = true) : setB u place (T.take j) = true := by
  obtain ⟨k, k1, k2, _, k4⟩ := settled hl i (by omega)
  obtain ⟨m, m1, m2, _, m4⟩ := settled hl j hj
  have hb := left_back T i (j - i) (by omega)
  rw [show i + (j - i) = j by omega] at hb
  have hinc1 := inc_EE hl 1
  have e1 : ∀ d : Ed, byE 1 d = d.1 := fun d => rfl
  have hkm : k ≤ m := by
    apply Classical.byContradiction
    intro hh
    have := hinc1.2.2 m k (by omega) k1
    rw [e1, e1] at this
    omega
  have h2 := (inc_EE hl u).le hkm m1
  have h3 : place ≤ (szE u (T.take i) : Int) - (leftL (T.take i) : Int) := of_decide_eq_true h
  refine decide_eq_true ?_
  rw [m4 u hu]
  rw [k4 u hu] at h3
  push_cast at h3 ⊢
  omega
theorem fir_one {p : List Int → Bool} {T : List Int} {n n' : Int} (mono : ∀ i j, i ≤ j → j ≤ T.length → p (T.take i) = true → p (T.take j) = true) (h : FirA p T n) (h' : FirA p T n') : n = n' := by
  have key : ∀ m m' : Nat, 0 < m' → m' ≤ T.length → p (T.take m) = true → p (T.take (m' - 1)) = false → ¬ m < m' := fun m m' h1 h2 h3 h4 hh => by
    have := mono m (m' - 1) (by omega) (by omega) h3
    rw [h4] at this; cases this
  rcases h with ⟨a, rfl⟩ | ⟨a, b, rfl⟩ | ⟨a, m, rfl, c, d, e, f⟩ <;> rcases h' with ⟨a', rfl⟩ | ⟨a', b', rfl⟩ | ⟨a', m', rfl, c', d', e', f'⟩
  · rfl
  · rw [a] at a'; cases a'
  · rw [a] at a'; cases a'
  · rw [a'] at a; cases a
  · rfl
  · have := mono m' T.length d' (Nat.le_refl _) f'
    rw [List.take_length, b] at this; cases this
  · rw [a'] at a; cases a
  · have := mono m T.length d (Nat.le_refl _) f
    rw [List.take_length, b'] at this; cases this
  · have h1 := key m m' c' d' f e'
    have h2 := key m' m c d f' e
    omega
theorem fir_some (p : List Int → Bool) (T : List Int) : ∃ n, FirA p T n := by
  cases h0 : p [] with
  | true => exact ⟨0, .inl ⟨h0, rfl⟩⟩
  | false =>
    cases hT : p T with
    | false => exact ⟨-1, .inr (.inl ⟨h0, hT, rfl⟩)⟩
    | true =>
      have key : ∀ m, m ≤ T.length → p (T.take m) = true → ∃ n, FirA p T n := by
        intro m
        induction m with
        | zero => intro _ h; rw [List.take_zero, h0] at h; cases h
        | succ m ih =>
          intro hm h
          cases hp : p (T.take m) with
          | true => exact ih (by omega) hp
          | false => exact ⟨((m + 1 : Nat) : Int), .inr (.inr ⟨h0, m + 1, rfl, by omega, hm, hp, h⟩)⟩
      exact key T.length (Nat.le_refl _) (by rw [List.take_length]; exact hT)
theorem settled10_of (g N : Nat) (u place n : Int) (w : World)
    (HF : Hid (∀ X, Below w.heap.size w X → Cb X w.heap.size 25 (.int .i64 u) → Cb X (w.heap.size + 1) 3 (.int .i64 place) → Calls Tryz.prog 88 #[.pointer (some ⟨g, 0, none⟩), .func (.func 111) #[] #[.pointer (some ⟨w.heap.size, 0, none⟩), .pointer (some ⟨w.heap.size + 1, 0, none⟩)]] X fun y w' => y = .returned (.int .i64 n) ∧ Below X.heap.size X w')) :
    Calls Tryz.prog 87 #[.func (.func 88) #[.pointer (some ⟨g, 0, none⟩)] #[], .int .i64 (N : Int), .int .i64 u, .int .i64 place] w fun y w' => y = .returned (.int .i64 (if n < 0 then (N : Int) else n)) ∧ Below w.heap.size w w' := by
  have b1 := (Below.refl w.heap.size w).alloc (Nat.le_refl _) (.cells #[.int .i64 u] 25)
  have z1 : (w.alloc (.cells #[.int .i64 u] 25)).heap.size = w.heap.size + 1 := World.size_alloc ..
  have k1 := Cb.new w 25 (.int .i64 u)
  have k2 := Cb.new (w.alloc (.cells #[.int .i64 u] 25)) 3 (.int .i64 place)
  have b2 : Below (w.alloc (.cells #[.int .i64 u] 25)).heap.size (w.alloc (.cells #[.int .i64 u] 25)) ((w.alloc (.cells #[.int .i64 u] 25)).alloc (.cells #[.int .i64 place] 3)) := (Below.refl _ _).alloc (Nat.le_refl _) _
  rw [z1] at k2
  have k1' := k1.on b2
  have B2 := b1.trans (b2.mono b1.size)
  have HFw := hide (unhide HF _ B2 k1' k2)
  have HB := hide B2
  clear b1 b2 z1 k1 k2 k1' B2 HF
  by_cases hn : n < 0
  · have d0 : decide (n < 0) = true := decide_eq_true hn
    rw [if_pos hn]
    go_enter Tryz.func87, Tryz.ntmps87
    go_wp2_with fail
    refine (unhide HFw).mono ?_
    rintro y w3 ⟨rfl, x3⟩
    dsimp only
    have X3 := (unhide HB).trans (x3.mono (unhide HB).size)
    go_wp2_with fail
    go_ret
    exact ⟨rfl, X3⟩
  · have d0 : decide (n < 0) = false := decide_eq_false hn
    rw [if_neg hn]
    go_enter Tryz.func87, Tryz.ntmps87
    go_wp2_with fail
    refine (unhide HFw).mono ?_
    rintro y w3 ⟨rfl, x3⟩
    dsimp only
    have X3 := (unhide HB).trans (x3.mono (unhide HB).size)
    go_wp2_with fail
    go_ret
    exact ⟨rfl, X3⟩
theorem tail3_le3 (l : List Int) : (tail3 l).length ≤ 3 := by unfold tail3; rw [List.length_drop]; omega
theorem setP10 (g : Nat) (o : Option Nd) (u place : Int) (w : World) (h : IsRo w g o) (hm : (txtO o).length ≤ 268435456) (hW : Wt w) (hu : isRu u = true) : SetP g (txtO o) u place w := by
  intro hu1 h0 h1
  have hb := bytes_of h
  have hz := szE_leS hb u
  obtain ⟨n, hn⟩ := fir_some (setB u place) (txtO o)
  have hn1 : -1 ≤ n := by rcases hn with ⟨_, rfl⟩ | ⟨_, _, rfl⟩ | ⟨_, m, rfl, _⟩ <;> omega
  refine ⟨if n < 0 then (txtO o).length else n.toNat, .inr ⟨hu1, n, hn, ?_⟩, fun X hx => ?_⟩
  · split
    · rfl
    · omega
  · have hR := h.on hx
    have hWX := hW.below hx
    have hF : ∀ Y, Below X.heap.size X Y → Cb Y X.heap.size 25 (.int .i64 u) → Cb Y (X.heap.size + 1) 3 (.int .i64 place) → Calls Tryz.prog 88 #[.pointer (some ⟨g, 0, none⟩), .func (.func 111) #[] #[.pointer (some ⟨X.heap.size, 0, none⟩), .pointer (some ⟨X.heap.size + 1, 0, none⟩)]] Y fun y w' => y = .returned (.int .i64 n) ∧ Below Y.heap.size Y w' := fun Y hy k1 k2 => by
      refine (First9_at (.pointer (some ⟨g, 0, none⟩)) o 111 #[.pointer (some ⟨X.heap.size, 0, none⟩), .pointer (some ⟨X.heap.size + 1, 0, none⟩)] (setB u place) Y (RoVro (hR.on hy)) hm (hWX.below hy) (enters_of Tryz.func111 (by kernel_rfl) rfl) (fun k Z hk hz2 => ?_)).mono ?_
      · have hbt : ∀ x ∈ (txtO o).take k, 0 ≤ x ∧ x ≤ 255 := fun x hx => hb x (List.mem_of_mem_take hx)
        have hs := szE_leS hbt u
        rw [List.length_take] at hs
        obtain ⟨_, _, _, l3, _⟩ := settled hb k hk
        rw [weq9]
        have hlt : (leftL (tail3 ((txtO o).take k)) : Int) = (leftL ((txtO o).take k) : Int) := by unfold tail3; rw [left_tail]
        refine setf10_of X.heap.size (X.heap.size + 1) u place _ _ _ _ (szE u ((txtO o).take k) : Int) (leftL ((txtO o).take k) : Int) _ _ Z (k1.on hz2) (k2.on hz2) (hide fun V _ => ?_) (hide fun V hv => ?_) (wrap_in _ (by omega) (by omega))
        · have := by10_at (szL ((txtO o).take k)) u V
          rw [byZ_is hbt hu] at this
          exact this
        · have := open10_at (tail3 ((txtO o).take k)) V (fun x hx => hbt x (List.mem_of_mem_drop hx)) (tail3_le3 _) (((hWX.below hy).below hz2).below hv)
          rw [hlt] at this
          exact this
      · rintro y w' ⟨m, rfl, hmA, b⟩
        rw [fir_one (fun i j a b c => set_mono hb hu a b c) hmA hn]
        exact ⟨rfl, b⟩
    refine (settled10_of g (txtO o).length u place n X (hide hF)).mono ?_
    rintro y w' ⟨rfl, b⟩
    refine ⟨?_, b⟩
    by_cases hn0 : n < 0
    · rw [if_pos hn0, if_pos hn0]
    · rw [if_neg hn0, if_neg hn0, Int.toNat_of_nonneg (by omega)]
end Go.Proofs.YteamaneompijkaaGreatDoor
