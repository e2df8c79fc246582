/- Layer 5: joined; what valid measures keep to. · Layer 5, plain: sizes counted place by place. · Layer 5, plain: the sizes of two texts, one behind the other. -/
import Derived.Test.YteamaneompijkaaGreatDoorSo27
namespace Go.Proofs.YteamaneompijkaaGreatDoor
set_option maxRecDepth 100000
set_option maxHeartbeats 8000000
section
open Go.ChangeShapes Go.WideShapes Go.ChangeAt Go.RowKit
def addZ (a b l : Sz) : Sz := ⟨a.b + b.b - l.b, a.r + b.r - l.r, a.u + b.u - l.u, a.e + b.e - l.e⟩
def InZ (z : Sz) : Prop := (-1000000000 ≤ z.b ∧ z.b ≤ 1000000000) ∧ (-1000000000 ≤ z.r ∧ z.r ≤ 1000000000) ∧ (-1000000000 ≤ z.u ∧ z.u ≤ 1000000000) ∧ (-1000000000 ≤ z.e ∧ z.e ≤ 1000000000)
theorem joined_at (a b l : Sz) (w : World) (ha : InZ a) (hb : InZ b) (hl : InZ l) :
    Calls Tryz.prog 149 #[szV a, szV b, szV l] w fun y w' => y = .returned (szV (addZ a b l)) ∧ Below w.heap.size w w' := by
  obtain ⟨a1, a2, a3, a4⟩ := a
  obtain ⟨b1, b2, b3, b4⟩ := b
  obtain ⟨l1, l2, l3, l4⟩ := l
  obtain ⟨⟨p1, p2⟩, ⟨p3, p4⟩, ⟨p5, p6⟩, ⟨p7, p8⟩⟩ := ha
  obtain ⟨⟨q1, q2⟩, ⟨q3, q4⟩, ⟨q5, q6⟩, ⟨q7, q8⟩⟩ := hb
  obtain ⟨⟨r1, r2⟩, ⟨r3, r4⟩, ⟨r5, r6⟩, ⟨r7, r8⟩⟩ := hl
  dsimp only at *
  unfold addZ szV
  dsimp only
  go_enter Tryz.func149, Tryz.ntmps149
  go_wp2_with fail
  refine bodyPost_ret (v := .agg #[.int .i64 (a1 + b1 - l1), .int .i64 (a2 + b2 - l2), .int .i64 (a3 + b3 - l3), .int .i64 (a4 + b4 - l4)]) (by simp [results, Tryz.results149, go_sem]) rfl ⟨rfl, ?_⟩
  exact ((((Below.refl _ _).alloc (Nat.le_refl _) _).alloc (by simp) _).alloc (by simp; omega) _).alloc (by simp; omega) _
theorem places_le (l : List Int) : ∀ (f p : Nat), (places l f p).length ≤ f
  | 0, p => by simp [places]
  | f + 1, p => by
    unfold places
    split
    · have := places_le l f (p + wid (l.drop p)); simp; omega
    · simp
theorem rnN_le (l : List Int) : rnN l ≤ l.length := places_le l _ 0
theorem usum_in (l : List Int) : ∀ ps : List Nat, (ps.length : Int) ≤ usum l ps ∧ usum l ps ≤ 2 * (ps.length : Int)
  | [] => by simp [usum]
  | p :: ps => by
    have ih := usum_in l ps
    have := uni1_in (first (l.drop p)).1
    rw [usum_cons, List.length_cons]
    omega
theorem szL_in {l : List Int} (h : l.length ≤ 268435456) : InZ (szL l) := by
  have h1 := rnN_le l
  have h2 := usum_in l (spots l 0)
  have h3 := endsN_in l
  have h4 : (spots l 0).length ≤ l.length := rnN_le l
  unfold InZ szL unN
  dsimp only
  omega
theorem seamL_in {s t : List Int} : InZ (seamL s t) ∧ (seamL s t).b = 0 := by
  have h4 := wid_four ((s ++ t).drop (flr (s ++ t) s.length))
  have h1 := uni1_in (first ((s ++ t).drop (flr (s ++ t) s.length))).1
  refine ⟨?_, rfl⟩
  unfold InZ seamL seamR seamU seamE
  dsimp only
  split <;> split <;> omega
theorem valid_in {x : We} (h : validB x = true) : InZ x.z ∧ x.h.length ≤ 3 ∧ x.t.length ≤ 3 ∧ 0 ≤ x.z.b ∧ x.z.b ≤ 268435456 ∧ (x.h.length : Int) = min x.z.b 3 ∧ (x.t.length : Int) = min x.z.b 3 := by
  unfold validB at h
  split at h
  · cases h
  · rename_i h1
    split at h
    · cases h
    · rename_i h2
      have h3 : (x.h.length : Int) = min x.z.b 3 ∧ (x.t.length : Int) = min x.z.b 3 := by omega
      refine ⟨?_, by omega, by omega, by omega, by omega, h3.1, h3.2⟩
      split at h
      · rename_i h6
        have e := of_decide_eq_true h
        rw [e]
        refine szL_in ?_
        unfold toldL
        simp
        omega
      · have := of_decide_eq_true (Bool.and_eq_true_iff.1 h).1
        simp only [mayB, Bool.and_eq_true, decide_eq_true_eq] at h
        unfold InZ
        omega
def zeroWe : We := ⟨⟨0, 0, 0, 0⟩, [], []⟩
def wc (x : We) : Array Value := #[.int .i64 x.z.b, .int .i64 x.z.r, .int .i64 x.z.u, .int .i64 x.z.e, .string (strOfNums x.h), .string (strOfNums x.t)]
def zc (z : Sz) : Array Value := #[.int .i64 z.b, .int .i64 z.r, .int .i64 z.u, .int .i64 z.e]
structure Jb (w : World) (ga gb gr gz : Nat) (a b r : We) (z : Sz) (wx : World) : Prop where
  xa : wx.heap[ga]? = some (.cells (wc a) 47 (0, 0))
  xb : wx.heap[gb]? = some (.cells (wc b) 47 (0, 0))
  xr : wx.heap[gr]? = some (.cells (wc r) 47 (0, 0))
  xz : wx.heap[gz]? = some (.cells (zc z) 45 (0, 0))
  below : Below w.heap.size w wx
  lo : w.heap.size ≤ ga ∧ w.heap.size ≤ gb ∧ w.heap.size ≤ gr ∧ w.heap.size ≤ gz
  hi : ga < wx.heap.size ∧ gb < wx.heap.size ∧ gr < wx.heap.size ∧ gz < wx.heap.size
theorem Jb.on {w : World} {ga gb gr gz : Nat} {a b r : We} {z : Sz} {wx w' : World} (p : Jb w ga gb gr gz a b r z wx) (h : Below wx.heap.size wx w') : Jb w ga gb gr gz a b r z w' := by
  obtain ⟨h1, h2, h3, h4⟩ := p.hi
  have hs := h.size
  exact ⟨(h.block ga h1).trans p.xa, (h.block gb h2).trans p.xb, (h.block gr h3).trans p.xr, (h.block gz h4).trans p.xz, p.below.trans (h.mono p.below.size), p.lo, ⟨by omega, by omega, by omega, by omega⟩⟩
theorem box6_w {W : World} {g : Nat} {x y : We} (h : W.heap[g]? = some (.cells (wc x) 47 (0, 0))) :
    ((((((W.setCell ⟨g, 0, none⟩ (.int .i64 y.z.b)).setCell ⟨g, 1, none⟩ (.int .i64 y.z.r)).setCell ⟨g, 2, none⟩ (.int .i64 y.z.u)).setCell ⟨g, 3, none⟩ (.int .i64 y.z.e)).setCell ⟨g, 4, none⟩ (.string (strOfNums y.h))).setCell ⟨g, 5, none⟩ (.string (strOfNums y.t))).heap[g]? = some (.cells (wc y) 47 (0, 0)) := box6_all h _ _ _ _ _ _
theorem size_set6 (W : World) (g : Nat) (a b c d e f : Value) : ((((((W.setCell ⟨g, 0, none⟩ a).setCell ⟨g, 1, none⟩ b).setCell ⟨g, 2, none⟩ c).setCell ⟨g, 3, none⟩ d).setCell ⟨g, 4, none⟩ e).setCell ⟨g, 5, none⟩ f).heap.size = W.heap.size := by simp [World.setCell]
theorem set6_other (W : World) {g k : Nat} (a b c d e f : Value) (h : k ≠ g) : ((((((W.setCell ⟨g, 0, none⟩ a).setCell ⟨g, 1, none⟩ b).setCell ⟨g, 2, none⟩ c).setCell ⟨g, 3, none⟩ d).setCell ⟨g, 4, none⟩ e).setCell ⟨g, 5, none⟩ f).heap[k]? = W.heap[k]? := by
  rw [set_other _ _ h, set_other _ _ h, set_other _ _ h, set_other _ _ h, set_other _ _ h, set_other _ _ h]
theorem size_set4 (W : World) (g : Nat) (a b c d : Value) : ((((W.setCell ⟨g, 0, none⟩ a).setCell ⟨g, 1, none⟩ b).setCell ⟨g, 2, none⟩ c).setCell ⟨g, 3, none⟩ d).heap.size = W.heap.size := by simp [World.setCell]
theorem set4_other (W : World) {g k : Nat} (a b c d : Value) (h : k ≠ g) : ((((W.setCell ⟨g, 0, none⟩ a).setCell ⟨g, 1, none⟩ b).setCell ⟨g, 2, none⟩ c).setCell ⟨g, 3, none⟩ d).heap[k]? = W.heap[k]? := by
  rw [set_other _ _ h, set_other _ _ h, set_other _ _ h, set_other _ _ h]
theorem Jb.setr {w : World} {ga gb gr gz : Nat} {a b r : We} {z : Sz} {wx : World} (p : Jb w ga gb gr gz a b r z wx) (y : We) (h1 : ga ≠ gr) (h2 : gb ≠ gr) (h3 : gz ≠ gr) : Jb w ga gb gr gz a b y z ((((((wx.setCell ⟨gr, 0, none⟩ (.int .i64 y.z.b)).setCell ⟨gr, 1, none⟩ (.int .i64 y.z.r)).setCell ⟨gr, 2, none⟩ (.int .i64 y.z.u)).setCell ⟨gr, 3, none⟩ (.int .i64 y.z.e)).setCell ⟨gr, 4, none⟩ (.string (strOfNums y.h))).setCell ⟨gr, 5, none⟩ (.string (strOfNums y.t))) :=
  ⟨(set6_other _ _ _ _ _ _ _ h1).trans p.xa, (set6_other _ _ _ _ _ _ _ h2).trans p.xb, box6_w p.xr, (set6_other _ _ _ _ _ _ _ h3).trans p.xz, below6 p.below p.lo.2.2.1 _ _ _ _ _ _, p.lo, by rw [size_set6]; exact p.hi⟩
theorem Jb.setz {w : World} {ga gb gr gz : Nat} {a b r : We} {z : Sz} {wx : World} (p : Jb w ga gb gr gz a b r z wx) (y : Sz) (h1 : ga ≠ gz) (h2 : gb ≠ gz) (h3 : gr ≠ gz) : Jb w ga gb gr gz a b r y ((((wx.setCell ⟨gz, 0, none⟩ (.int .i64 y.b)).setCell ⟨gz, 1, none⟩ (.int .i64 y.r)).setCell ⟨gz, 2, none⟩ (.int .i64 y.u)).setCell ⟨gz, 3, none⟩ (.int .i64 y.e)) :=
  ⟨(set4_other _ _ _ _ _ h1).trans p.xa, (set4_other _ _ _ _ _ h2).trans p.xb, (set4_other _ _ _ _ _ h3).trans p.xr, box4_all p.xz _ _ _ _, below4 p.below p.lo.2.2.2 _ _ _ _, p.lo, by rw [size_set4]; exact p.hi⟩
end
section
def cI (P : Nat → Bool) : Nat → Nat
  | 0 => 0
  | p + 1 => cI P p + (if P p then 1 else 0)
theorem cI_add (P : Nat → Bool) (m : Nat) : ∀ n, cI P (m + n) = cI P m + cI (fun i => P (m + i)) n
  | 0 => rfl
  | n + 1 => by
    show cI P (m + n) + (if P (m + n) then 1 else 0) = cI P m + (cI (fun i => P (m + i)) n + (if P (m + n) then 1 else 0))
    rw [cI_add P m n, Nat.add_assoc]
theorem cI_congr {P P' : Nat → Bool} : ∀ {n : Nat}, (∀ q, q < n → P q = P' q) → cI P n = cI P' n
  | 0, _ => rfl
  | n + 1, h => by
    show cI P n + _ = cI P' n + _
    rw [cI_congr (n := n) (fun q hq => h q (by omega)), h n (by omega)]
theorem cI_cut {P P' : Nat → Bool} {lo hi : Nat} (hlh : lo ≤ hi) : ∀ n, (∀ q, q < n → P q = (P' q && !(decide (lo ≤ q ∧ q < hi)))) → (∀ q, q < n → lo ≤ q → q < hi → P' q = true) → cI P n + (min hi n - min lo n) = cI P' n
  | 0, _, _ => by simp [cI]
  | n + 1, h, h' => by
    have ih := cI_cut hlh n (fun q hq => h q (by omega)) (fun q hq => h' q (by omega))
    show cI P n + (if P n then 1 else 0) + _ = cI P' n + (if P' n then 1 else 0)
    rw [h n (by omega)]
    by_cases hin : lo ≤ n ∧ n < hi
    · rw [h' n (by omega) hin.1 hin.2, decide_eq_true hin]
      simp
      omega
    · rw [decide_eq_false hin]
      simp
      omega
theorem cI_one {P P' : Nat → Bool} {k : Nat} : ∀ n, (∀ q, q < n → P q = (P' q || decide (q = k))) → (k < n → P' k = false) → cI P n = cI P' n + (if k < n then 1 else 0)
  | 0, _, _ => by simp [cI]
  | n + 1, h, h' => by
    have ih := cI_one n (fun q hq => h q (by omega)) (fun hk => h' (by omega))
    show cI P n + (if P n then 1 else 0) = cI P' n + (if P' n then 1 else 0) + _
    rw [h n (by omega), ih]
    by_cases hk : n = k
    · subst hk
      rw [h' (by omega)]
      simp
    · rw [decide_eq_false hk, Bool.or_false]
      by_cases hlt : k < n
      · rw [if_pos hlt, if_pos (show k < n + 1 by omega)]; omega
      · rw [if_neg hlt, if_neg (show ¬ k < n + 1 by omega)]; omega
def eP (l : List Int) (q : Nat) : Bool := !inside l q
def qP (l : List Int) (q : Nat) : Bool := decide (lng (l.drop q) = 4)
theorem inside_btw {l : List Int} {p k : Nat} (h1 : 1 ≤ k) (h2 : k < wid (l.drop p)) : inside l (p + k) = true ∧ lng (l.drop (p + k)) = 0 := by
  have hw : k < lng (l.drop p) := by rwa [wid_gt h1] at h2
  exact ⟨(inside_iff l (p + k)).2 ⟨p, by omega, by omega⟩, lng_cross (p := p) (by omega) (by omega)⟩
theorem cI_step {l : List Int} {p : Nat} (he : inside l p = false) (hp : p < l.length) : ∀ k, 1 ≤ k → k ≤ wid (l.drop p) → cI (eP l) (p + k) = cI (eP l) p + 1 ∧ cI (qP l) (p + k) = cI (qP l) p + (if lng (l.drop p) = 4 then 1 else 0)
  | 0, h, _ => by omega
  | 1, _, _ => by
    refine ⟨?_, ?_⟩
    · show cI (eP l) p + (if eP l p then 1 else 0) = _
      rw [eP, he]; rfl
    · show cI (qP l) p + (if qP l p then 1 else 0) = _
      unfold qP
      by_cases h : lng (l.drop p) = 4 <;> simp [h]
  | k + 2, _, h2 => by
    obtain ⟨i1, i2⟩ := cI_step he hp (k + 1) (by omega) (by omega)
    obtain ⟨j1, j2⟩ := inside_btw (l := l) (p := p) (k := k + 1) (by omega) (by omega)
    refine ⟨?_, ?_⟩
    · show cI (eP l) (p + (k + 1)) + (if eP l (p + (k + 1)) then 1 else 0) = _
      rw [i1, eP, j1]; rfl
    · show cI (qP l) (p + (k + 1)) + (if qP l (p + (k + 1)) then 1 else 0) = _
      rw [i2, qP, j2]; simp
theorem uni_wid {x : List Int} (hx : ∀ y ∈ x, 0 ≤ y ∧ y ≤ 255) : uni1 (first x).1 = if lng x = 4 then 2 else 1 := by
  cases x with
  | nil => rfl
  | cons a r =>
    have ha := hx a (List.mem_cons_self ..)
    have hw := wid_lng a r
    have key : uni1 (first (a :: r)).1 = if wid (a :: r) = 4 then 2 else 1 := by
      unfold wid
      by_cases hs : (r.length : Int) + 1 < need a
      · rw [first_short hs]; decide
      · have hn : need a = 0 ∨ need a = 1 ∨ need a = 2 ∨ need a = 3 ∨ need a = 4 := by unfold need; repeat (first | (split <;> try omega) | omega)
        rcases hn with hn | hn | hn | hn | hn
        · rw [first_0 hn]; decide
        · have h128 : a < 128 := by unfold need at hn; revert hn; repeat (first | (split <;> try omega) | omega)
          rw [first_1 h128]
          unfold uni1
          rw [if_neg (by show ¬ 65535 < a; omega)]; rfl
        · match r, hx, hs with
          | b :: t, hx, hs =>
            rw [first_2 hn]
            split
            · unfold uni1
              rw [if_neg (by show ¬ (65535 < a % 32 * 64 + b % 64); omega)]; rfl
            · decide
          | [], _, hs => rw [hn] at hs; simp at hs
        · match r, hx, hs with
          | b :: c :: t, hx, hs =>
            rw [first_3 hn]
            split
            · unfold uni1
              rw [if_neg (by show ¬ (65535 < (a % 16 * 64 + b % 64) * 64 + c % 64); omega)]; rfl
            · decide
          | [b], _, hs => rw [hn] at hs; simp at hs
          | [], _, hs => rw [hn] at hs; simp at hs
        · match r, hx, hs with
          | b :: c :: d :: t, hx, hs =>
            rw [first_4 hn]
            split
            · rename_i hc
              have hsec : sec a b = true := by
                rw [Bool.and_eq_true] at hc
                exact hc.1
              have h240 : 240 ≤ a ∧ a < 245 := by unfold need at hn; revert hn; repeat (first | (split <;> try omega) | omega)
              simp only [sec, decide_eq_true_eq] at hsec
              unfold uni1
              rw [if_pos (by show 65535 < ((a % 8 * 64 + b % 64) * 64 + c % 64) * 64 + d % 64; omega)]; rfl
            · decide
          | [b, c], _, hs => rw [hn] at hs; simp at hs
          | [b], _, hs => rw [hn] at hs; simp at hs
          | [], _, hs => rw [hn] at hs; simp at hs
    rw [key, hw]
    have := lng_le (a :: r)
    by_cases h0 : lng (a :: r) = 0
    · rw [if_pos h0, h0]; rfl
    · rw [if_neg h0]
theorem sizes_split {l : List Int} (hl : ∀ x ∈ l, 0 ≤ x ∧ x ≤ 255) : ∀ (n p : Nat), l.length - p ≤ n → p ≤ l.length → inside l p = false →
    (spots l p).length + cI (eP l) p = cI (eP l) l.length ∧ usum l (spots l p) + (cI (eP l) p : Int) + (cI (qP l) p : Int) = (cI (eP l) l.length : Int) + (cI (qP l) l.length : Int)
  | 0, p, h, hle, he => by
    obtain rfl : p = l.length := by omega
    rw [spots_end (by omega)]
    simp [usum]
  | n + 1, p, h, hle, he => by
    by_cases hp : p < l.length
    · have hw := wid_pos hp
      obtain ⟨c1, c2⟩ := cI_step he hp _ hw (Nat.le_refl _)
      obtain ⟨i1, i2⟩ := sizes_split hl n (p + wid (l.drop p)) (by omega) (wid_len hp) (edge_next he hp)
      have hu := uni_wid (x := l.drop p) (fun y hy => hl y (List.mem_of_mem_drop hy))
      rw [spots_cons hp, usum_cons, hu, List.length_cons]
      rw [c1] at i1
      rw [c1, c2] at i2
      refine ⟨by omega, ?_⟩
      by_cases h4 : lng (l.drop p) = 4
      · simp only [h4, if_true] at i2 ⊢; omega
      · simp only [h4, if_false] at i2 ⊢; omega
    · obtain rfl : p = l.length := by omega
      rw [spots_end (by omega)]
      simp [usum]
theorem rn_count {l : List Int} (hl : ∀ x ∈ l, 0 ≤ x ∧ x ≤ 255) : rnN l = cI (eP l) l.length := by
  have := (sizes_split hl l.length 0 (by omega) (Nat.zero_le _) (edge_zero l)).1
  simpa [rnN, cI] using this
theorem un_count {l : List Int} (hl : ∀ x ∈ l, 0 ≤ x ∧ x ≤ 255) : unN l = (cI (eP l) l.length : Int) + (cI (qP l) l.length : Int) := by
  have := (sizes_split hl l.length 0 (by omega) (Nat.zero_le _) (edge_zero l)).2
  simpa [unN, cI] using this
end
section
theorem lng_pre1 {x : List Int} (y : List Int) (h : lng x ≠ 0) : lng (x ++ y) = lng x := by
  cases x with
  | nil => exact absurd rfl h
  | cons a r =>
    have hl := lng_len (a :: r)
    have hw : whole ((a :: r).take (need a).toNat) = true := by
      rcases Bool.eq_false_or_eq_true (whole ((a :: r).take (need a).toNat)) with h1 | h1
      · exact h1
      · exfalso; apply h; simp [lng, h1]
    have e : lng (a :: r) = (need a).toNat := by simp only [lng]; rw [if_pos hw]
    rw [e] at hl ⊢
    show (if whole (((a :: r) ++ y).take (need a).toNat) then (need a).toNat else 0) = _
    rw [List.take_append_of_le_length hl, if_pos hw]
theorem lng_pre2 {x y : List Int} (h : lng (x ++ y) ≤ x.length) (h0 : lng (x ++ y) ≠ 0) : lng x = lng (x ++ y) := by
  cases x with
  | nil => exact absurd (Nat.le_zero.1 h) h0
  | cons a r =>
    have hw : whole (((a :: r) ++ y).take (need a).toNat) = true := by
      rcases Bool.eq_false_or_eq_true (whole (((a :: r) ++ y).take (need a).toNat)) with h1 | h1
      · exact h1
      · exfalso; apply h0; show (if whole (((a :: r) ++ y).take (need a).toNat) then (need a).toNat else 0) = 0; rw [h1]; rfl
    have e : lng ((a :: r) ++ y) = (need a).toNat := by show (if whole (((a :: r) ++ y).take (need a).toNat) then (need a).toNat else 0) = _; rw [if_pos hw]
    rw [e] at h ⊢
    rw [List.take_append_of_le_length h] at hw
    simp only [lng]
    rw [if_pos hw]
section
variable {a b : List Int}
theorem drop_l {s : Nat} (h : s ≤ a.length) : (a ++ b).drop s = a.drop s ++ b := List.drop_append_of_le_length h
theorem drop_r (s : Nat) : (a ++ b).drop (a.length + s) = b.drop s := by rw [← List.drop_drop]; simp
theorem left_in {q : Nat} (hq : q < a.length) : inside (a ++ b) q = true ↔ inside a q = true ∨ ∃ s, s < q ∧ a.length < s + lng ((a ++ b).drop s) := by
  rw [inside_iff, inside_iff]
  constructor
  · rintro ⟨s, h1, h2⟩
    rcases Nat.lt_or_ge a.length (s + lng ((a ++ b).drop s)) with h | h
    · exact Or.inr ⟨s, h1, h⟩
    · left
      refine ⟨s, h1, ?_⟩
      rw [drop_l (by omega)] at h h2
      have := lng_pre2 (x := a.drop s) (y := b) (by simp; omega) (by omega)
      omega
  · rintro (⟨s, h1, h2⟩ | ⟨s, h1, h2⟩)
    · refine ⟨s, h1, ?_⟩
      rw [drop_l (by omega), lng_pre1 b (by omega)]
      exact h2
    · exact ⟨s, h1, by omega⟩
theorem right_in (i : Nat) : inside (a ++ b) (a.length + i) = true ↔ inside b i = true ∨ ∃ s, s < a.length ∧ a.length + i < s + lng ((a ++ b).drop s) := by
  rw [inside_iff, inside_iff]
  constructor
  · rintro ⟨s, h1, h2⟩
    rcases Nat.lt_or_ge s a.length with h | h
    · exact Or.inr ⟨s, h, h2⟩
    · left
      obtain ⟨k, rfl⟩ : ∃ k, s = a.length + k := ⟨s - a.length, by omega⟩
      rw [drop_r] at h2
      exact ⟨k, by omega, by omega⟩
  · rintro (⟨s, h1, h2⟩ | ⟨s, h1, h2⟩)
    · refine ⟨a.length + s, by omega, ?_⟩
      rw [drop_r]
      omega
    · exact ⟨s, by omega, h2⟩
theorem eP_eq {l m : List Int} {q k : Nat} (h : inside l q = true ↔ inside m k = true) : eP l q = eP m k := by
  unfold eP
  rw [Bool.eq_iff_iff.2 h]
theorem counts_no (hn : inside (a ++ b) a.length = false) : cI (eP (a ++ b)) (a ++ b).length = cI (eP a) a.length + cI (eP b) b.length ∧ cI (qP (a ++ b)) (a ++ b).length = cI (qP a) a.length + cI (qP b) b.length := by
  rw [inside_not] at hn
  rw [List.length_append, cI_add, cI_add]
  refine ⟨?_, ?_⟩
  · congr 1
    · refine cI_congr fun q hq => eP_eq ?_
      rw [left_in hq]
      refine ⟨fun h => ?_, Or.inl⟩
      rcases h with h | ⟨s, h1, h2⟩
      · exact h
      · have := hn s (by omega); omega
    · refine cI_congr fun i hi => eP_eq ?_
      rw [right_in]
      refine ⟨fun h => ?_, Or.inl⟩
      rcases h with h | ⟨s, h1, h2⟩
      · exact h
      · have := hn s h1; omega
  · congr 1
    · refine cI_congr fun q hq => ?_
      have hq' := hn q hq
      unfold qP
      rw [decide_eq_decide, drop_l (by omega)]
      rw [drop_l (by omega)] at hq'
      constructor
      · intro h
        rw [lng_pre2 (x := a.drop q) (y := b) (by simp; omega) (by omega)]
        exact h
      · intro h
        rw [lng_pre1 b (by omega)]
        exact h
    · refine cI_congr fun i hi => ?_
      unfold qP
      rw [drop_r]
theorem counts_yes {f n : Nat} (hf : f < a.length) (hn : lng ((a ++ b).drop f) = n) (hfn : a.length < f + n) : cI (eP (a ++ b)) (a ++ b).length + (n - 1) = cI (eP a) a.length + cI (eP b) b.length ∧ cI (qP (a ++ b)) (a ++ b).length = cI (qP a) a.length + cI (qP b) b.length + (if n = 4 then 1 else 0) := by
  have hlen : f + n ≤ a.length + b.length := by
    have := lng_len ((a ++ b).drop f)
    rw [hn] at this
    simp at this
    omega
  have huniq : ∀ s, s < a.length → a.length < s + lng ((a ++ b).drop s) → s = f := by
    intro s h1 h2
    rcases Nat.lt_trichotomy s f with h | h | h
    · have := lng_cross (l := a ++ b) (p := s) (q := f) h (by omega); omega
    · exact h
    · have := lng_cross (l := a ++ b) (p := f) (q := s) h (by omega); omega
  have hzero : ∀ s, f < s → s < f + n → lng ((a ++ b).drop s) = 0 := fun s h1 h2 => lng_cross (p := f) h1 (by omega)
  have hnoA : ∀ q, f < q → q < a.length → inside a q = false := by
    intro q h1 h2
    rw [inside_not]
    intro s hs
    rcases Nat.lt_or_ge q (s + lng (a.drop s)) with h | h
    · exfalso
      have e : lng ((a ++ b).drop s) = lng (a.drop s) := by rw [drop_l (by omega)]; exact lng_pre1 b (by omega)
      have hl := lng_len (a.drop s)
      rw [List.length_drop] at hl
      rcases Nat.lt_trichotomy s f with h' | h' | h'
      · have := lng_cross (l := a ++ b) (p := s) (q := f) h' (by omega); omega
      · subst h'; omega
      · have := hzero s h' (by omega); omega
    · exact h
  have hnoB : ∀ i, a.length + i < f + n → inside b i = false := by
    intro i h1
    rw [inside_not]
    intro s hs
    rcases Nat.lt_or_ge i (s + lng (b.drop s)) with h | h
    · exfalso
      have := hzero (a.length + s) (by omega) (by omega)
      rw [drop_r] at this
      omega
    · exact h
  rw [List.length_append, cI_add, cI_add]
  refine ⟨?_, ?_⟩
  · have c1 := cI_cut (P := eP (a ++ b)) (P' := eP a) (lo := f + 1) (hi := a.length) (by omega) a.length (fun q hq => by
      have hl := left_in (a := a) (b := b) hq
      unfold eP
      by_cases hin : f + 1 ≤ q ∧ q < a.length
      · rw [decide_eq_true hin, (inside_iff (a ++ b) q).2 ⟨f, by omega, by omega⟩]
        simp
      · rw [decide_eq_false hin, Bool.not_false, Bool.and_true]
        congr 1
        rw [Bool.eq_iff_iff, hl]
        refine ⟨fun h => ?_, Or.inl⟩
        rcases h with h | ⟨s, h1, h2⟩
        · exact h
        · have := huniq s (by omega) h2; omega) (fun q hq h1 h2 => by unfold eP; rw [hnoA q (by omega) h2]; rfl)
    have c2 := cI_cut (P := fun i => eP (a ++ b) (a.length + i)) (P' := eP b) (lo := 0) (hi := f + n - a.length) (by omega) b.length (fun i hi => by
      have hr := right_in (a := a) (b := b) i
      unfold eP
      by_cases hin : 0 ≤ i ∧ i < f + n - a.length
      · rw [decide_eq_true hin, (inside_iff (a ++ b) (a.length + i)).2 ⟨f, by omega, by omega⟩]
        simp
      · rw [decide_eq_false hin, Bool.not_false, Bool.and_true]
        congr 1
        rw [Bool.eq_iff_iff, hr]
        refine ⟨fun h => ?_, Or.inl⟩
        rcases h with h | ⟨s, h1, h2⟩
        · exact h
        · have := huniq s h1 (by omega); subst this; omega) (fun i hi h1 h2 => by unfold eP; rw [hnoB i (by omega)]; rfl)
    omega
  · have hQb : cI (fun i => qP (a ++ b) (a.length + i)) b.length = cI (qP b) b.length := cI_congr fun i hi => by unfold qP; rw [drop_r]
    have haf : lng (a.drop f) = 0 := by
      rcases Nat.eq_zero_or_pos (lng (a.drop f)) with h | h
      · exact h
      · have e := lng_pre1 (x := a.drop f) b (by omega)
        rw [← drop_l (by omega), hn] at e
        have := lng_len (a.drop f)
        rw [List.length_drop] at this
        omega
    have hq : ∀ q, q < a.length → q ≠ f → qP (a ++ b) q = qP a q := by
      intro q hq hne
      unfold qP
      rw [decide_eq_decide]
      have hle : q + lng ((a ++ b).drop q) ≤ a.length := by
        rcases Nat.lt_or_ge a.length (q + lng ((a ++ b).drop q)) with h | h
        · exact absurd (huniq q hq h) hne
        · exact h
      rw [drop_l (by omega)] at hle ⊢
      constructor
      · intro h
        rw [lng_pre2 (x := a.drop q) (y := b) (by simp; omega) (by omega)]
        exact h
      · intro h
        rw [lng_pre1 b (by omega)]
        exact h
    rw [hQb]
    by_cases h4 : n = 4
    · have := cI_one (P := qP (a ++ b)) (P' := qP a) (k := f) a.length (fun q hq' => by
        by_cases hqf : q = f
        · subst hqf
          unfold qP
          rw [hn, h4, haf]
          simp
        · rw [hq q hq' hqf, decide_eq_false hqf, Bool.or_false]) (fun _ => by unfold qP; rw [haf]; rfl)
      rw [this, if_pos hf, if_pos h4]
      omega
    · rw [cI_congr (P := qP (a ++ b)) (P' := qP a) (fun q hq' => by
        by_cases hqf : q = f
        · subst hqf
          unfold qP
          rw [hn, haf, decide_eq_false h4]
          rfl
        · exact hq q hq' hqf), if_neg h4]
      omega
end
end
end Go.Proofs.YteamaneompijkaaGreatDoor
