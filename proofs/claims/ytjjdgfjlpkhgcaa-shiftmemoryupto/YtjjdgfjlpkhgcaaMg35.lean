/- Layer 14, the document's Over (written by wip/tools/sgt.py). -/
import Derived.Test.YtjjdgfjlpkhgcaaMg34

namespace Go.Proofs.Ytjjdgfjlpkhgcaa
open Go.ChangeShapes Go.WideShapes Go.ChangeAt Go.RowKit
attribute [local go_sem] Oper.semAt_some

/-- how much a builder holds -/
def bw (b : Bld) : Nat := b.ops.length + b.kept + b.tx.length + b.dr
theorem bw_one (b : Bld) (x : Atm) : bw (b.one x) ≤ bw b + 1 := by
  cases x with
  | k =>
    show bw (b.keep 1) ≤ _
    unfold Bld.keep
    rw [if_neg (by decide)]
    split
    · rename_i h; simp only [bw, h.1, h.2]; omega
    · have h1 : (kO b.kept).length ≤ b.kept := by unfold kO; split <;> simp; omega
      have h2 : (pO b.tx).length ≤ b.tx.length := by
        unfold pO; split
        · simp
        · rename_i h
          cases ht : b.tx with
          | nil => exact absurd ht h
          | cons a r => simp
      have h3 : (dO b.dr).length ≤ b.dr := by unfold dO; split <;> simp; omega
      simp only [bw, Bld.fin, List.length_append, List.length_nil]
      omega
  | d => show bw (b.drop 1) ≤ _; simp only [bw, Bld.drop]; omega
  | p y => show bw (b.put [y]) ≤ _; simp only [bw, Bld.put, List.length_append, List.length_cons, List.length_nil]; omega
theorem bw_feed : ∀ (u : List Atm) (b : Bld), bw (feedA b u) ≤ bw b + u.length
  | [], b => by simp [feedA]
  | x :: u, b => by
    show bw (feedA (b.one x) u) ≤ _
    have h1 := bw_feed u (b.one x)
    have h2 := bw_one b x
    simp only [List.length_cons]
    omega
theorem puts_len : ∀ b : List Atm, (putsA b).length ≤ b.length
  | [] => Nat.le_refl _
  | .p y :: b => by simp only [putsA, List.length_cons]; have := puts_len b; omega
  | .k :: b => by simp only [putsA, List.length_cons]; have := puts_len b; omega
  | .d :: b => by simp only [putsA, List.length_cons]; have := puts_len b; omega
theorem ov_len (f : Bool) : ∀ (n : Nat) (a b : List Atm), a.length + b.length ≤ n → (ovA f a b).length ≤ a.length + b.length
  | _, [], b, _ => by show (putsA b).length ≤ _; have := puts_len b; simp; omega
  | 0, _ :: _, _, h => by simp at h
  | n + 1, .p x :: a, b, h => by
    by_cases hb : f = false ∨ ∀ y r, b ≠ .p y :: r
    · rw [ov_keep f x a b hb]
      have := ov_len f n a b (by simp at h ⊢; omega)
      simp only [List.length_cons]; omega
    · cases b with
      | nil => exact absurd (.inr fun y r e => by cases e) hb
      | cons z b => cases z with
        | k => exact absurd (.inr fun y r e => by cases e) hb
        | d => exact absurd (.inr fun y r e => by cases e) hb
        | p y =>
          have hft : f = true := by cases f with | true => rfl | false => exact absurd (.inl rfl) hb
          rw [ov_put f _ y b (.inl hft)]
          have := ov_len f n (.p x :: a) b (by simp at h ⊢; omega)
          simp only [List.length_cons] at this ⊢; omega
  | n + 1, .k :: a, b, h => by
    cases b with
    | nil =>
      have := ov_len f n a [] (by simp at h ⊢; omega)
      show (ovA f a []).length ≤ _
      simp only [List.length_cons] at this ⊢; omega
    | cons z b => cases z with
      | p y =>
        rw [ov_put f _ y b (.inr fun _ _ e => by cases e)]
        have := ov_len f n (.k :: a) b (by simp at h ⊢; omega)
        simp only [List.length_cons] at this ⊢; omega
      | k =>
        have := ov_len f n a b (by simp at h ⊢; omega)
        show (Atm.k :: ovA f a b).length ≤ _
        simp only [List.length_cons]; omega
      | d =>
        have := ov_len f n a b (by simp at h ⊢; omega)
        show (Atm.d :: ovA f a b).length ≤ _
        simp only [List.length_cons]; omega
  | n + 1, .d :: a, b, h => by
    cases b with
    | nil =>
      have := ov_len f n a [] (by simp at h ⊢; omega)
      show (ovA f a []).length ≤ _
      simp only [List.length_cons] at this ⊢; omega
    | cons z b => cases z with
      | p y =>
        rw [ov_put f _ y b (.inr fun _ _ e => by cases e)]
        have := ov_len f n (.d :: a) b (by simp at h ⊢; omega)
        simp only [List.length_cons] at this ⊢; omega
      | k =>
        have := ov_len f n a b (by simp at h ⊢; omega)
        show (ovA f a b).length ≤ _
        simp only [List.length_cons]; omega
      | d =>
        have := ov_len f n a b (by simp at h ⊢; omega)
        show (ovA f a b).length ≤ _
        simp only [List.length_cons]; omega
theorem len_ft : ∀ u : List Atm, u.length ≤ frA u + toA u
  | [] => by simp
  | .k :: u => by have := len_ft u; simp only [List.length_cons, frA, toA]; omega
  | .d :: u => by have := len_ft u; simp only [List.length_cons, frA, toA]; omega
  | .p _ :: u => by have := len_ft u; simp only [List.length_cons, frA, toA]; omega
theorem dA_len9 {d : List Dop} (hv : valB d = true) : (dA d).length ≤ 536870912 := by
  have h1 := len_ft (dA d)
  have h2 := frA_dA (valB_k hv)
  have h3 := (valB_nn hv).2
  omega
/-- the first places' atoms -/
def ovU (f : Bool) (a b : List Atm) (p : Nat) : List Atm := (List.range p).flatMap (plcA f a b)
theorem ovU_s (f : Bool) (a b : List Atm) (p : Nat) : ovU f a b (p + 1) = ovU f a b p ++ plcA f a b p := fm_last _ _
theorem ovU_le (f : Bool) (a b : List Atm) {p q : Nat} (h : p ≤ q) : (ovU f a b p).length ≤ (ovU f a b q).length ∧ toA (ovU f a b p) ≤ toA (ovU f a b q) := by
  obtain ⟨k, rfl⟩ : ∃ k, q = p + k := ⟨q - p, by omega⟩
  unfold ovU
  rw [List.range_add, List.flatMap_append, List.length_append, to_app]
  omega
theorem toA_len : ∀ u : List Atm, toA u ≤ u.length
  | [] => by simp [toA]
  | .k :: u => by have := toA_len u; simp only [List.length_cons, toA]; omega
  | .d :: u => by have := toA_len u; simp only [List.length_cons, toA]; omega
  | .p _ :: u => by have := toA_len u; simp only [List.length_cons, toA]; omega
/-- what stands before a place: the builder, its bounds, how long the new text is -/
structure OvI (f : Bool) (A E : List Atm) (p t : Nat) (b : Bld) : Prop where
  e : b = feedA b0 (ovU f A E p)
  o : t = toA (ovU f A E p)
  w : Wb b
theorem ovI_bound {f : Bool} {A E : List Atm} {p t : Nat} {b : Bld} (h : OvI f A E p t b) (hp : p ≤ frA A + 1) (hf : frA A = frA E) (hA : A.length ≤ 536870912) (hE : E.length ≤ 536870912) : bw b ≤ 1073741824 ∧ t ≤ 1073741824 := by
  have h1 := bw_feed (ovU f A E p) b0
  rw [← h.e] at h1
  have h2 := (ovU_le f A E hp).1
  have h3 := ov_book f _ A E (Nat.le_refl _) hf
  have h4 := ov_len f _ A E (Nat.le_refl _)
  have h5 : ovU f A E (frA A + 1) = ovA f A E := h3.symm
  rw [h5] at h2
  have h6 : bw b0 = 0 := rfl
  have h7 := toA_len (ovU f A E p)
  have h8 := h.o
  omega
theorem toA_p (y : List Int) : toA (y.map Atm.p) = y.length := by induction y with | nil => rfl | cons a r ih => simp only [List.map_cons, toA, List.length_cons, ih]; try omega
theorem toA_k (n : Nat) : toA (List.replicate n Atm.k) = n := by induction n with | zero => rfl | succ n ih => rw [List.replicate_succ]; simp only [toA, ih]; try omega
theorem slot_feed (f : Bool) (b : Bld) (x y : List Int) : feedA b (slotA f x y) = (if f then (b.put y).keep x.length else (b.keep x.length).put y) ∧ toA (slotA f x y) = x.length + y.length := by
  unfold slotA
  cases f with
  | true => simp only [if_true]; rw [feedA_app, feed_puts, feed_keeps, to_app, toA_p, toA_k]; exact ⟨rfl, by omega⟩
  | false => simp only [Bool.false_eq_true, if_false]; rw [feedA_app, feed_keeps, feed_puts, to_app, toA_p, toA_k]; exact ⟨rfl, rfl⟩
def ovS (f : Bool) (b : Bld) (x y : List Int) : Bld := if f then (b.put y).keep x.length else (b.keep x.length).put y
theorem ovI_next {f : Bool} {A E : List Atm} {p t : Nat} {b : Bld} (h : OvI f A E p t b) (x y : List Int) (hx : x = (bkP A).getD p []) (hy : y = (bkP E).getD p []) (hf : frA A = frA E) :
    (p = frA A → OvI f A E (p + 1) (t + (x.length + y.length)) (ovS f b x y)) ∧
    (p < frA A → (bkD A).getD p false = true → OvI f A E (p + 1) (t + (x.length + y.length)) (ovS f b x y)) ∧
    (p < frA A → (bkD A).getD p false = false → (bkD E).getD p false = true → OvI f A E (p + 1) (t + (x.length + y.length)) ((ovS f b x y).drop 1)) ∧
    (p < frA A → (bkD A).getD p false = false → (bkD E).getD p false = false → OvI f A E (p + 1) (t + (x.length + y.length) + 1) ((ovS f b x y).keep 1)) := by
  obtain ⟨s1, s2⟩ := slot_feed f b x y
  have hl := bkD_len A
  have hm : ∀ m, midA (bkD A) (bkD E) p = m → OvI f A E (p + 1) (t + (x.length + y.length) + toA m) (feedA (ovS f b x y) m) := fun m hm => by
    have e1 : ovU f A E (p + 1) = ovU f A E p ++ (slotA f x y ++ m) := by
      rw [ovU_s]
      unfold plcA
      rw [← hx, ← hy, hm]
    have e2 : feedA (ovS f b x y) m = feedA b0 (ovU f A E (p + 1)) := by
      rw [e1, feedA_app, ← h.e, feedA_app, s1]
      rfl
    refine ⟨e2, ?_, ?_⟩
    · rw [e1, to_app, to_app, s2, ← h.o]; omega
    · rw [e2]; exact wb_feed _ wb0
  refine ⟨fun hp => ?_, fun hp h1 => ?_, fun hp h1 h2 => ?_, fun hp h1 h2 => ?_⟩
  · have := hm [] (by unfold midA; rw [if_neg (by omega)])
    simpa [toA, feedA] using this
  · have := hm [] (by unfold midA; rw [if_pos (by omega), h1]; rfl)
    simpa [toA, feedA] using this
  · have := hm [.d] (by unfold midA; rw [if_pos (by omega), h1, h2]; rfl)
    exact this
  · have := hm [.k] (by unfold midA; rw [if_pos (by omega), h1, h2]; rfl)
    exact this
theorem ovI_end {f : Bool} {A E : List Atm} {t : Nat} {b : Bld} (h : OvI f A E (frA A + 1) t b) (hf : frA A = frA E) : t = toA (ovA f A E) ∧ b.fin = canA (ovA f A E) := by
  have h5 : ovU f A E (frA A + 1) = ovA f A E := (ov_book f _ A E (Nat.le_refl _) hf).symm
  have h1 := h.o
  have h2 := h.e
  rw [h5] at h1 h2
  exact ⟨h1, by rw [h2]; rfl⟩
theorem ovI_zero (f : Bool) (A E : List Atm) : OvI f A E 0 0 b0 := ⟨rfl, rfl, wb0⟩
theorem two_alloc {X : World} {B s n : Nat} {t : TypeId} {v : Value} {xs : List Value} {o o' : Obj} (h : X.ownsRow B t s v n xs) : ((X.alloc o).alloc o').ownsRow B t s v n xs := World.ownsRow.alloc (World.ownsRow.alloc h o) o'
theorem ov_p {p N : Nat} (h : p < N + 1) : decide ((p : Int) ≤ (N : Int)) = true ∧ decide (p ≤ N) = true ∧ (p : Int) ≤ (N : Int) ∧ (p : Int) < (N : Int) + 1 ∧ (0 : Int) ≤ (p : Int) := ⟨decide_eq_true (by omega), decide_eq_true (by omega), by omega, by omega, by omega⟩
theorem bw_tx (b : Bld) : b.tx.length ≤ bw b := by unfold bw; omega
theorem bw_kn (b : Bld) (n : Nat) : bw (b.keep n) ≤ bw b + n := by
  have := bw_feed (List.replicate n .k) b
  rw [feed_keeps, List.length_replicate] at this
  exact this
theorem bw_b {b : Bld} (h : bw b ≤ 1073741824) : bw b ≤ 4294967296 := by omega
theorem bw_put {b : Bld} {y : List Int} (h : bw b ≤ 1073741824) (hy : y.length ≤ 1073741824) : bw (b.put y) ≤ 2147483648 := by simp only [bw, Bld.put, List.length_append] at h ⊢; omega
theorem le44 {a : Nat} (h : a ≤ 2147483648) : a ≤ 4294967296 := by omega
theorem bw_kp {b : Bld} {n : Nat} (h : bw b ≤ 2147483648) (hn : n ≤ 1073741824) : bw (b.keep n) ≤ 4294967296 := by have := bw_kn b n; omega
theorem bw_kp2 {b : Bld} {n : Nat} (h : bw b ≤ 1073741824) (hn : n ≤ 1073741824) : bw (b.keep n) ≤ 2147483648 := by have := bw_kn b n; omega
theorem bw_pt {b : Bld} {y : List Int} (h : bw b ≤ 2147483648) (hy : y.length ≤ 1073741824) : bw (b.put y) ≤ 4294967296 := by simp only [bw, Bld.put, List.length_append] at h ⊢; omega
theorem ov_l {b : Bld} (h : bw b ≤ 4294967296) : (b.ops ++ kO b.kept).length ≤ 1099511627000 := by
  have h1 : (kO b.kept).length ≤ 1 := by unfold kO; split <;> simp
  unfold bw at h
  rw [List.length_append]; omega
theorem ov_d {b : Bld} (h : bw b ≤ 4294967296) : b.dr ≤ 4611686018427387904 := by unfold bw at h; omega
theorem ov_d1 {b : Bld} (h : bw b ≤ 4294967296) : b.dr + 1 ≤ 4611686018427387904 := by unfold bw at h; omega
theorem ov_k {b : Bld} {n : Nat} (h : bw b ≤ 4294967296) (hn : n ≤ 1073741824) : b.kept + n ≤ 4611686018427387904 := by unfold bw at h; omega
theorem ov_k1 {b : Bld} (h : bw b ≤ 4294967296) : b.kept + 1 ≤ 4611686018427387904 := by unfold bw at h; omega
theorem row_low {X : World} {B B' s n : Nat} {t : TypeId} {v : Value} {xs : List Value} (h : X.ownsRow B t s v n xs) (hb : B' ≤ B) : X.ownsRow B' t s v n xs := ⟨h.1, h.2.imp id (fun ⟨g, cap, cur, h1, h2, h3⟩ => ⟨g, cap, cur, h1, Nat.le_trans hb h2, h3⟩)⟩
theorem ov_w {x y T1 T2 t : Nat} (h1 : T1 = x + y) (h2 : T2 = t + T1) (g1 : t + (x + y) ≤ 1073741824) (g2 : x ≤ 1073741824) (g3 : y ≤ 1073741824) : (wrap64 ((x : Int) + (y : Int)) = (T1 : Int) ∧ IntKind.i64.wrap ((x : Int) + (y : Int)) = (T1 : Int)) ∧ (wrap64 ((t : Int) + (T1 : Int)) = (T2 : Int) ∧ IntKind.i64.wrap ((t : Int) + (T1 : Int)) = (T2 : Int)) ∧ wrap64 ((T2 : Int) + 1) = ((T2 + 1 : Nat) : Int) ∧ T2 ≤ 2147483648 := by
  refine ⟨⟨by rw [wrapD _ (by omega) (by omega)]; omega, by rw [IntKind.wrap_i64]; omega⟩, ⟨by rw [wrapD _ (by omega) (by omega)]; omega, by rw [IntKind.wrap_i64]; omega⟩, by rw [wrapD _ (by omega) (by omega)]; omega, by omega⟩
theorem ov_bounds {f : Bool} {A E : List Atm} {N p t : Nat} {b : Bld} (HIB : ∀ (p t : Nat) (b : Bld), OvI f A E p t b → p ≤ N + 1 → bw b ≤ 1073741824 ∧ t ≤ 1073741824)
    (HIN : ∀ (p t : Nat) (b : Bld), OvI f A E p t b → (p = N → OvI f A E (p + 1) (t + (((bkP A).getD p []).length + ((bkP E).getD p []).length)) (ovS f b ((bkP A).getD p []) ((bkP E).getD p []))) ∧
      (p < N → (bkD A).getD p false = true → OvI f A E (p + 1) (t + (((bkP A).getD p []).length + ((bkP E).getD p []).length)) (ovS f b ((bkP A).getD p []) ((bkP E).getD p []))) ∧
      (p < N → (bkD A).getD p false = false → (bkD E).getD p false = true → OvI f A E (p + 1) (t + (((bkP A).getD p []).length + ((bkP E).getD p []).length)) ((ovS f b ((bkP A).getD p []) ((bkP E).getD p [])).drop 1)) ∧
      (p < N → (bkD A).getD p false = false → (bkD E).getD p false = false → OvI f A E (p + 1) (t + (((bkP A).getD p []).length + ((bkP E).getD p []).length) + 1) ((ovS f b ((bkP A).getD p []) ((bkP E).getD p [])).keep 1)))
    (h : OvI f A E p t b) (hp : p < N + 1) : t + (((bkP A).getD p []).length + ((bkP E).getD p []).length) ≤ 1073741824 ∧ ((bkP A).getD p []).length ≤ 1073741824 ∧ ((bkP E).getD p []).length ≤ 1073741824 ∧ bw b ≤ 1073741824 := by
  obtain ⟨n1, n2, n3, n4⟩ := HIN p t b h
  have hb := (HIB p t b h (Nat.le_of_lt hp)).1
  have key : t + (((bkP A).getD p []).length + ((bkP E).getD p []).length) ≤ 1073741824 := by
    rcases Nat.lt_or_ge p N with hl | hl
    · cases h1 : (bkD A).getD p false with
      | true => exact (HIB _ _ _ (n2 hl h1) (by omega)).2
      | false =>
        cases h2 : (bkD E).getD p false with
        | true => exact (HIB _ _ _ (n3 hl h1 h2) (by omega)).2
        | false => have := (HIB _ _ _ (n4 hl h1 h2) (by omega)).2; omega
    · exact (HIB _ _ _ (n1 (by omega)) (by omega)).2
  exact ⟨key, by omega, by omega, hb⟩
theorem rd_ms2 {p N : Nat} (h : p < N + 1) : N - p < N + 1 - p := by omega
theorem ov_wp {p : Nat} (h : p ≤ 268435456) : wrap64 ((p : Int) + 1) = ((p + 1 : Nat) : Int) := by rw [wrapD _ (by omega) (by omega)]; omega
theorem ov_ms {p N : Nat} (h : p < N + 1) (hw : wrap64 ((p : Int) + 1) = ((p + 1 : Nat) : Int)) : N + 1 - (intOf (.int .i64 (wrap64 ((p : Int) + 1)))).toNat < N + 1 - (intOf (.int .i64 (p : Int))).toNat := by
  rw [hw]
  show N + 1 - (((p + 1 : Nat) : Int)).toNat < N + 1 - ((p : Int)).toNat
  rw [Int.toNat_natCast, Int.toNat_natCast]
  omega
theorem ov_ne {p N : Nat} (h : p < N) : ((p : Int) == (N : Int)) = false ∧ (p : Int) < (N : Int) := ⟨by simp; omega, by omega⟩
theorem txs_get {P : List (List Int)} {p : Nat} (h : p < P.length) : (txsV P)[p]? = some (.string (strOfNums (P.getD p []))) := by unfold txsV; simp [List.getD, List.getElem?_eq_getElem h]
theorem bools_get {P : List Bool} {p : Nat} (h : p < P.length) : (P.map Value.bool)[p]? = some (.bool (P.getD p false)) := by simp [List.getD, List.getElem?_eq_getElem h]
set_option maxRecDepth 100000 in
set_option maxHeartbeats 8000000 in
theorem ROver_main (a : Option Addr) (c : Nat) (d : List Dop) (a' : Option Addr) (c' : Nat) (e : List Dop) (f : Bool) (w : World) (h : IsO w a d) (h' : IsO w a' e) (hl : d.length ≤ 4611686018427387904) (hl' : e.length ≤ 4611686018427387904) (hv : valB d = true) (hv' : valB e = true) (hf : frD d = frD e) :
    Calls Try.prog 82 #[.slice a d.length c, .slice a' e.length c', .bool f] w fun y w' => ∃ v, y = .returned (.tuple #[v, .int .i64 (ovE d e f)]) ∧ w'.ownsRow w.heap.size 34 3 v (ovD d e f).length (opsV (ovD d e f)) ∧ Below w.heap.size w w' := by
  have hnn := (valB_nn hv).2
  have hnn' := (valB_nn hv').2
  have HVA := hide (RValid14_at a c d w h hl (by have := tx_val hv; omega))
  have HVB := hide fun (X : World) (hX : Below w.heap.size w X) => RValid14_at a' c' e X (h'.below hX (Nat.le_refl _)) hl' (by have := tx_val hv'; omega)
  rw [hv] at HVA
  rw [hv'] at HVB
  have HLA := hide fun (X : World) (hX : Below w.heap.size w X) => lens14_at a c d X (h.below hX (Nat.le_refl _)) hl (val_PlO hv) (by omega) (by omega)
  have HLB := hide fun (X : World) (hX : Below w.heap.size w X) => lens14_at a' c' e X (h'.below hX (Nat.le_refl _)) hl' (val_PlO hv') (by omega) (by omega)
  have HRA := hide fun (X : World) (hX : Below w.heap.size w X) => RRead_at a c d X (h.below hX (Nat.le_refl _)) hl hv
  have HRB := hide fun (X : World) (hX : Below w.heap.size w X) => RRead_at a' c' e X (h'.below hX (Nat.le_refl _)) hl' hv'
  obtain ⟨fA, _⟩ := frA_dA (valB_k hv)
  obtain ⟨fE, _⟩ := frA_dA (valB_k hv')
  have lA := dA_len9 hv
  have lE := dA_len9 hv'
  have hE : ovE d e f = if 268435456 < toA (ovA f (dA d) (dA e)) then 5 else 0 := by unfold ovE; rw [hv, hv', hf]; simp
  have hD : ovD d e f = if 268435456 < toA (ovA f (dA d) (dA e)) then [] else canA (ovA f (dA d) (dA e)) := by
    unfold ovD; rw [hE]
    by_cases hq : 268435456 < toA (ovA f (dA d) (dA e))
    · rw [if_pos hq, if_neg (by decide), if_pos hq]
    · rw [if_neg hq, if_pos rfl, if_neg hq]
  rw [hD, hE]
  obtain ⟨N, hN⟩ : ∃ N, N = frD d := ⟨_, rfl⟩
  rw [← hf] at HLB HRB fE
  rw [← hN] at HLA HLB HRA HRB fA fE
  have hNb : N ≤ 268435456 := by rw [hN]; exact hnn.1
  have HI0 := hide (ovI_zero f (dA d) (dA e))
  have HIB := hide (fun p t b (hI : OvI f (dA d) (dA e) p t b) (hp : p ≤ N + 1) => ovI_bound hI (by rw [fA]; exact hp) (fA.trans fE.symm) lA lE)
  have HIN := hide (fun p t b (hI : OvI f (dA d) (dA e) p t b) => ovI_next hI _ _ rfl rfl (fA.trans fE.symm))
  have HIE := hide (fun t b (hI : OvI f (dA d) (dA e) (N + 1) t b) => ovI_end (by rw [fA]; exact hI) (fA.trans fE.symm))
  rw [fA] at HIN
  clear h h' hl hl' hv hv' hf hnn hnn' hE hD hN
  generalize toD d = td at *
  generalize toD e = te at *
  generalize d.length = ld at *
  generalize e.length = le at *
  have PL := hide (And.intro (bkP_len (dA d)) (bkP_len (dA e)))
  have DL := hide (And.intro (bkD_len (dA d)) (bkD_len (dA e)))
  rw [fA, fE] at PL DL
  clear fA fE lA lE
  generalize toA (ovA f (dA d) (dA e)) = TT at *
  generalize canA (ovA f (dA d) (dA e)) = CC at *
  generalize dA d = A at *
  generalize dA e = E at *
  go_enter Try.func82, Try.ntmps82
  go_wp2_with fail
  refine (unhide HVA).mono ?_
  rintro y w1 ⟨rfl, x1⟩
  dsimp only
  have HX1 := hide x1
  have HC1 := hide (unhide HVB w1 x1)
  clear HVA HVB x1
  go_wp2_with fail
  refine (unhide HC1).mono ?_
  rintro y w2 ⟨rfl, x2⟩
  dsimp only
  have HX2 := hide ((unhide HX1).trans (x2.mono (unhide HX1).size))
  have HC2 := hide (unhide HLA w2 (unhide HX2))
  clear HC1 HX1 x2 HLA
  go_wp2_with fail
  refine (unhide HC2).mono ?_
  rintro y w3 ⟨rfl, x3⟩
  dsimp only
  have HX3 := hide ((unhide HX2).trans (x3.mono (unhide HX2).size))
  have HC3 := hide (unhide HLB w3 (unhide HX3))
  clear HC2 HX2 x3 HLB
  go_wp2_with fail
  refine (unhide HC3).mono ?_
  rintro y w4 ⟨rfl, x4⟩
  dsimp only
  have HX4 := hide ((unhide HX3).trans (x4.mono (unhide HX3).size))
  have HC4 := hide (unhide HRA w4 (unhide HX4))
  clear HC3 HX3 x4 HRA
  have tn : ((N : Int) != (N : Int)) = false := by simp
  go_wp2_with fail
  refine (unhide HC4).mono ?_
  rintro y w5 ⟨xP, xD, rfl, rxP, rxD, x5⟩
  dsimp only
  have HX5 := hide ((unhide HX4).trans (x5.mono (unhide HX4).size))
  have HC5 := hide (unhide HRB w5 (unhide HX5))
  have HxP := hide rxP
  have HxD := hide rxD
  have HZ4 := hide (unhide HX4).size
  clear HC4 HX4 x5 HRB rxP rxD
  go_wp2_with fail
  refine (unhide HC5).mono ?_
  rintro y w6 ⟨yP, yD, rfl, ryP, ryD, x6⟩
  dsimp only
  have HX6 := hide ((unhide HX5).trans (x6.mono (unhide HX5).size))
  have HxP6 := hide (rowD_below (unhide HxP) x6 (Nat.le_refl _))
  have HxD6 := hide (rowD_below (unhide HxD) x6 (Nat.le_refl _))
  have HyP := hide ryP
  have HyD := hide ryD
  have HZ5 := hide (unhide HX5).size
  clear HC5 HX5 x6 HxP HxD ryP ryD
  obtain ⟨gxp, cxp, rfl, bxp, _⟩ := rowD_some9 (unhide HxP6) (Nat.succ_pos _)
  obtain ⟨axd, cxd, rfl, _⟩ := rowD_form (unhide HxD6)
  obtain ⟨gyp, cyp, rfl, byp, _⟩ := rowD_some9 (unhide HyP) (Nat.succ_pos _)
  obtain ⟨ayd, cyd, rfl, _⟩ := rowD_form (unhide HyD)
  have kx := (Cls.new w6 121 #[.slice (some ⟨gxp, 0, none⟩) (N + 1) cxp, .slice axd N cxd]).alloc (.cells #[.slice (some ⟨gyp, 0, none⟩) (N + 1) cyp, .slice ayd N cyd] 121)
  have ky := Cls.new (w6.alloc (.cells #[.slice (some ⟨gxp, 0, none⟩) (N + 1) cxp, .slice axd N cxd] 121)) 121 #[.slice (some ⟨gyp, 0, none⟩) (N + 1) cyp, .slice ayd N cyd]
  rw [World.size_alloc] at ky
  have HBL := hide (((unhide HX6).alloc (unhide HX6).size (.cells #[.slice (some ⟨gxp, 0, none⟩) (N + 1) cxp, .slice axd N cxd] 121)).alloc (by rw [World.size_alloc]; exact Nat.le_succ_of_le (unhide HX6).size) (.cells #[.slice (some ⟨gyp, 0, none⟩) (N + 1) cyp, .slice ayd N cyd] 121))
  have HR1 := hide (two_alloc (o := .cells #[.slice (some ⟨gxp, 0, none⟩) (N + 1) cxp, .slice axd N cxd] 121) (o' := .cells #[.slice (some ⟨gyp, 0, none⟩) (N + 1) cyp, .slice ayd N cyd] 121) (unhide HxP6))
  have HR2 := hide (two_alloc (o := .cells #[.slice (some ⟨gxp, 0, none⟩) (N + 1) cxp, .slice axd N cxd] 121) (o' := .cells #[.slice (some ⟨gyp, 0, none⟩) (N + 1) cyp, .slice ayd N cyd] 121) (unhide HxD6))
  have HR3 := hide (two_alloc (o := .cells #[.slice (some ⟨gxp, 0, none⟩) (N + 1) cxp, .slice axd N cxd] 121) (o' := .cells #[.slice (some ⟨gyp, 0, none⟩) (N + 1) cyp, .slice ayd N cyd] 121) (unhide HyP))
  have HR4 := hide (two_alloc (o := .cells #[.slice (some ⟨gxp, 0, none⟩) (N + 1) cxp, .slice axd N cxd] 121) (o' := .cells #[.slice (some ⟨gyp, 0, none⟩) (N + 1) cyp, .slice ayd N cyd] 121) (unhide HyD))
  have HKX := hide kx
  have HKY := hide ky
  clear kx ky HX6 HxP6 HxD6 HyP HyD HZ4 HZ5 bxp byp
  go_upto_region 8 with fail
  generalize (w6.alloc (.cells #[.slice (some ⟨gxp, 0, none⟩) (N + 1) cxp, .slice axd N cxd] 121)).alloc (.cells #[.slice (some ⟨gyp, 0, none⟩) (N + 1) cyp, .slice ayd N cyd] 121) = w7 at *
  generalize w6.heap.size + 1 = gy at *
  generalize w6.heap.size = gx at *
  have HBU : Hid (IsBu (w7.alloc (.cells #[.slice none 0 0, .string ⟨#[]⟩, .int .i64 0] 124)) w7.heap.size w7.heap.size b0) := hide ⟨⟨.slice none 0 0, Cls.new w7 _ _, ⟨rfl, .inl ⟨rfl, rfl⟩⟩⟩, Nat.le_refl _⟩
  have HBA := hide ((Below.refl w7.heap.size w7).alloc (Nat.le_refl _) (.cells #[.slice none 0 0, .string ⟨#[]⟩, .int .i64 0] 124))
  go_upto_region 9 with fail
  generalize hB1 : w7.heap.size = B1 at *
  have HB1 := hide hB1
  clear hB1
  generalize w7.alloc (.cells #[.slice none 0 0, .string ⟨#[]⟩, .int .i64 0] 124) = w8 at *
  have HCX : Hid (∀ X, Below B1 w7 X → X.cell? ⟨gx, 0, none⟩ = some (.slice (some ⟨gxp, 0, none⟩) (N + 1) cxp) ∧ X.cell? ⟨gx, 1, none⟩ = some (.slice axd N cxd) ∧ X.cell? ⟨gy, 0, none⟩ = some (.slice (some ⟨gyp, 0, none⟩) (N + 1) cyp) ∧ X.cell? ⟨gy, 1, none⟩ = some (.slice ayd N cyd)) := hide fun X hX => by
    have e := unhide HB1
    obtain ⟨p0, p1⟩ := bk_cells ((unhide HKX).below hX (by rw [← e]; exact (unhide HKX).lt))
    obtain ⟨q0, q1⟩ := bk_cells ((unhide HKY).below hX (by rw [← e]; exact (unhide HKY).lt))
    exact ⟨p0, p1, q0, q1⟩
  have HCP : Hid (∀ X, Below B1 w7 X → ∀ p, p < N + 1 → X.cell? ⟨gxp, p, none⟩ = some (.string (strOfNums ((bkP A).getD p []))) ∧ X.cell? ⟨gyp, p, none⟩ = some (.string (strOfNums ((bkP E).getD p [])))) := hide fun X hX p hp => by
    have e := unhide HB1
    exact ⟨(rowD_cell (rowD_below (unhide HR1) hX (Nat.le_of_eq e)) (txs_get (by rw [(unhide PL).1]; exact hp))).1, (rowD_cell (rowD_below (unhide HR3) hX (Nat.le_of_eq e)) (txs_get (by rw [(unhide PL).2]; exact hp))).1⟩
  have HCD : Hid (∀ p, p < N → ∃ gxd gyd, axd = some ⟨gxd, 0, none⟩ ∧ ayd = some ⟨gyd, 0, none⟩ ∧ ∀ X, Below B1 w7 X → X.cell? ⟨gxd, p, none⟩ = some (.bool ((bkD A).getD p false)) ∧ X.cell? ⟨gyd, p, none⟩ = some (.bool ((bkD E).getD p false))) := hide fun p hp => by
    have e := unhide HB1
    obtain ⟨gxd, cc, h1, _, _⟩ := rowD_some9 (unhide HR2) (Nat.lt_of_le_of_lt (Nat.zero_le _) hp)
    obtain ⟨gyd, cc', h2, _, _⟩ := rowD_some9 (unhide HR4) (Nat.lt_of_le_of_lt (Nat.zero_le _) hp)
    cases h1
    cases h2
    exact ⟨gxd, gyd, rfl, rfl, fun X hX => ⟨(rowD_cell (rowD_below (unhide HR2) hX (Nat.le_of_eq e)) (bools_get (by rw [(unhide DL).1]; exact hp))).1, (rowD_cell (rowD_below (unhide HR4) hX (Nat.le_of_eq e)) (bools_get (by rw [(unhide DL).2]; exact hp))).1⟩⟩
  have HWZ := hide (unhide HBL)
  have HBS : Hid (B1 ≤ w7.heap.size) := hide (Nat.le_of_eq (unhide HB1).symm)
  have HBZ : Hid (w.heap.size ≤ B1) := hide (by rw [← unhide HB1]; exact (unhide HBL).size)
  clear HR1 HR2 HR3 HR4 HKX HKY PL DL HB1 HBL
  go_upto_region 11 with fail
  go_loopw [15, 16] (fun v15 v16 wx => ∃ (p t : Nat) (b : Bld), v16 = .int .i64 (p : Int) ∧ v15 = .int .i64 (t : Int) ∧ p ≤ N + 1 ∧ Hid (OvI f A E p t b) ∧ Hid (IsBu wx B1 B1 b) ∧ Hid (Below B1 w7 wx)) (fun _ v16 _ => N + 1 - (intOf v16).toNat)
  case atStart => exact ⟨0, 0, b0, rfl, rfl, Nat.zero_le _, HI0, HBU, HBA⟩
  case round =>
    clear HBU HBA
    obtain ⟨p, t, b, rfl, rfl, hp, HI, HU, HB⟩ := hrel
    by_cases hlt : p < N + 1
    · obtain ⟨t1, t2, t3, m1, m2⟩ := ov_p hlt
      have hbd := ov_bounds (unhide HIB) (unhide HIN) (unhide HI) hlt
      obtain ⟨n1, n2, n3, n4⟩ := unhide HIN p t b (unhide HI)
      have HPC := hide fun X hX => unhide HCP X hX p hlt
      have HW := hide (unhide HI).w
      have hpb : p ≤ 268435456 := Nat.le_trans (Nat.lt_succ_iff.1 hlt) hNb
      generalize (bkP A).getD p [] = x at *
      generalize (bkP E).getD p [] = yt at *
      have HSX := hide (strOfNums_size x)
      have HSY := hide (strOfNums_size yt)
      obtain ⟨g1, g2, g3, g4⟩ := hbd
      obtain ⟨T1, hT1⟩ : ∃ T1, T1 = x.length + yt.length := ⟨_, rfl⟩
      obtain ⟨T2, hT2⟩ : ∃ T2, T2 = t + T1 := ⟨_, rfl⟩
      obtain ⟨W1, W2, W3, W4⟩ := ov_w hT1 hT2 g1 g2 g3
      rw [← hT1, ← hT2] at n1 n2 n3 n4
      clear hT1 hT2 HCP
      cases f with
      | true =>
        have HPut := hide fun X (hX : IsBu X B1 B1 b) => buPut_at B1 B1 _ _ _ yt X hX (by have := bw_tx b; omega)
        have HKp := hide fun X (hX : IsBu X B1 B1 (b.put yt)) (hB : B1 ≤ X.heap.size) => buKeep_at B1 B1 (b.put yt) x.length X hX (wb_put (unhide HW) yt) (ov_l (le44 (bw_put g4 g3))) hB (ov_d (le44 (bw_put g4 g3))) (ov_k (le44 (bw_put g4 g3)) g2)
        have hbs : bw ((b.put yt).keep x.length) ≤ 4294967296 := bw_kp (bw_put g4 g3) g2
        have hws := wb_keep (wb_put (unhide HW) yt) x.length
        have HDr := hide fun X (hX : IsBu X B1 B1 ((b.put yt).keep x.length)) => buDrop_at B1 B1 _ _ _ 1 X hX (ov_d1 hbs)
        have HK1 := hide fun X (hX : IsBu X B1 B1 ((b.put yt).keep x.length)) (hB : B1 ≤ X.heap.size) => buKeep_at B1 B1 ((b.put yt).keep x.length) 1 X hX hws (ov_l hbs) hB (ov_d hbs) (ov_k1 hbs)
        rw [show ovS true b x yt = (b.put yt).keep x.length from rfl] at n1 n2 n3 n4
        have HN := hide (And.intro n1 (And.intro n2 (And.intro n3 n4)))
        clear n1 n2 n3 n4 hbs hws HW g1 g2 g3 g4 HIN HIB HIE HI
        obtain ⟨cx0, cx1, cy0, cy1⟩ := unhide HCX wr (unhide HB)
        obtain ⟨px, py⟩ := unhide HPC wr (unhide HB)
        have hsx := unhide HSX
        have hsy := unhide HSY
        generalize strOfNums x = sx at *
        generalize strOfNums yt = sy at *
        have HC1 := hide (unhide HPut wr (unhide HU))
        clear HU HPut
        generalize x.length = xl at *
        generalize yt.length = yl at *
        go_wp2_with fail
        refine (unhide HC1).mono ?_
        rintro yy wa ⟨rfl, ia, xa⟩
        dsimp only
        have HBa := hide ((unhide HB).trans xa)
        have HIa := hide ia
        clear HC1 cx0 cx1 cy0 cy1 px py ia xa HB
        obtain ⟨cx0, cx1, cy0, cy1⟩ := unhide HCX wa (unhide HBa)
        obtain ⟨px, py⟩ := unhide HPC wa (unhide HBa)
        have HC2 := hide (unhide HKp wa (unhide HIa) (Nat.le_trans (unhide HBS) (unhide HBa).size))
        clear HKp
        go_wp2_with fail
        refine (unhide HC2).mono ?_
        rintro yy wb ⟨rfl, ib, xb⟩
        dsimp only
        have HBb := hide ((unhide HBa).trans xb)
        have HIb : Hid (IsBu wb B1 B1 ((b.put yt).keep xl)) := hide ib
        clear HC2 cx0 cx1 cy0 cy1 px py ib xb HBa HIa
        obtain ⟨cx0, cx1, cy0, cy1⟩ := unhide HCX wb (unhide HBb)
        obtain ⟨px, py⟩ := unhide HPC wb (unhide HBb)
        obtain ⟨W1a, W1b⟩ := W1
        obtain ⟨W2a, W2b⟩ := W2
        go_upto_region 18 with fail
        go_quiet (fail)
        have HBq := hide (below_drewN (unhide HBb) nq)
        have HIq := hide ((unhide HIb).on (below_drewN (Below.refl wb.heap.size wb) nq) (Nat.le_refl _))
        clear HBb HIb cx0 cx1 cy0 cy1 px py
        generalize wb.drewN nq = wq at *
        rw [show ((1 : Nat) : Int) = 1 from rfl] at HDr HK1
        generalize (b.put yt).keep xl = bS at *
        obtain ⟨cx0, cx1, cy0, cy1⟩ := unhide HCX wq (unhide HBq)
        have Wp := ov_wp hpb
        have HLT := hide hlt
        clear hpb hNb hp t1 t2 t3 m1 W1a W1b W2a W2b W4 hsx hsy HSX HSY HPC HWZ HBZ tn HI0
        rcases Nat.lt_or_ge p N with hpN | hpN
        · obtain ⟨gxd, gyd, rfl, rfl, hcd⟩ := unhide HCD p hpN
          obtain ⟨dx, dy⟩ := hcd wq (unhide HBq)
          obtain ⟨te, tl⟩ := ov_ne hpN
          clear hcd
          cases hx : (bkD A).getD p false with
          | true =>
            rw [hx] at dx
            have HN2 := hide ((unhide HN).2.1 hpN hx)
            clear hx HN hpN
            clear HDr HK1
            go_wp2_with fail
            go_roundw
            case rel => exact ⟨p + 1, T2, bS, by first | rfl | exact congrArg _ Wp | go_num, by first | rfl | exact congrArg _ W3 | go_num, hlt, HN2, HIq, HBq⟩
            case measure => exact ov_ms hlt Wp
          | false =>
            rw [hx] at dx
            cases hy : (bkD E).getD p false with
            | true =>
              rw [hy] at dy
              have HN2 := hide ((unhide HN).2.2.1 hpN hx hy)
              clear hx hy HN hpN
              have HC3 := hide (unhide HDr wq (unhide HIq))
              clear HDr HK1 HIq
              go_wp2_with fail
              refine (unhide HC3).mono ?_
              rintro yy wd ⟨rfl, id, xd⟩
              dsimp only
              have HBd := hide ((unhide HBq).trans xd)
              have HId := hide id
              clear HC3 HBq id xd
              go_wp2_with fail
              go_roundw
              case rel => exact ⟨p + 1, T2, bS.drop 1, by first | rfl | exact congrArg _ Wp | go_num, by first | rfl | exact congrArg _ W3 | go_num, hlt, HN2, HId, HBd⟩
              case measure => exact ov_ms hlt Wp
            | false =>
              rw [hy] at dy
              have HN2 := hide ((unhide HN).2.2.2 hpN hx hy)
              clear hx hy HN hpN
              have HC3 := hide (unhide HK1 wq (unhide HIq) (Nat.le_trans (unhide HBS) (unhide HBq).size))
              clear HDr HK1 HIq
              go_wp2_with fail
              refine (unhide HC3).mono ?_
              rintro yy wd ⟨rfl, id, xd⟩
              dsimp only
              have HBd := hide ((unhide HBq).trans xd)
              have HId := hide id
              clear HC3 HBq id xd
              go_wp2_with fail
              go_roundw
              case rel => exact ⟨p + 1, T2 + 1, bS.keep 1, by first | rfl | exact congrArg _ Wp | go_num, by first | rfl | exact congrArg _ W3 | go_num, hlt, HN2, HId, HBd⟩
              case measure => exact ov_ms hlt Wp
        · obtain rfl : p = N := Nat.le_antisymm (Nat.lt_succ_iff.1 hlt) hpN
          have HN2 := hide ((unhide HN).1 rfl)
          clear HN hpN
          clear HDr HK1
          go_wp2_with fail
          go_roundw
          case rel => exact ⟨p + 1, T2, bS, by first | rfl | exact congrArg _ Wp | go_num, by first | rfl | exact congrArg _ W3 | go_num, hlt, HN2, HIq, HBq⟩
          case measure => exact ov_ms hlt Wp
      | false =>
        have HKp := hide fun X (hX : IsBu X B1 B1 b) (hB : B1 ≤ X.heap.size) => buKeep_at B1 B1 b x.length X hX (unhide HW) (ov_l (bw_b g4)) hB (ov_d (bw_b g4)) (ov_k (bw_b g4) g2)
        have HPut := hide fun X (hX : IsBu X B1 B1 (b.keep x.length)) => buPut_at B1 B1 _ _ _ yt X hX (by have := bw_tx (b.keep x.length); have := bw_kp2 g4 g2; omega)
        have hbs : bw ((b.keep x.length).put yt) ≤ 4294967296 := bw_pt (bw_kp2 g4 g2) g3
        have hws := wb_put (wb_keep (unhide HW) x.length) yt
        have HDr := hide fun X (hX : IsBu X B1 B1 ((b.keep x.length).put yt)) => buDrop_at B1 B1 _ _ _ 1 X hX (ov_d1 hbs)
        have HK1 := hide fun X (hX : IsBu X B1 B1 ((b.keep x.length).put yt)) (hB : B1 ≤ X.heap.size) => buKeep_at B1 B1 ((b.keep x.length).put yt) 1 X hX hws (ov_l hbs) hB (ov_d hbs) (ov_k1 hbs)
        rw [show ovS false b x yt = (b.keep x.length).put yt from rfl] at n1 n2 n3 n4
        have HN := hide (And.intro n1 (And.intro n2 (And.intro n3 n4)))
        clear n1 n2 n3 n4 hbs hws HW g1 g2 g3 g4 HIN HIB HIE HI
        obtain ⟨cx0, cx1, cy0, cy1⟩ := unhide HCX wr (unhide HB)
        obtain ⟨px, py⟩ := unhide HPC wr (unhide HB)
        have hsx := unhide HSX
        have hsy := unhide HSY
        generalize strOfNums x = sx at *
        generalize strOfNums yt = sy at *
        have HC1 := hide (unhide HKp wr (unhide HU) (Nat.le_trans (unhide HBS) (unhide HB).size))
        clear HU HKp
        generalize x.length = xl at *
        generalize yt.length = yl at *
        go_wp2_with fail
        refine (unhide HC1).mono ?_
        rintro yy wa ⟨rfl, ia, xa⟩
        dsimp only
        have HBa := hide ((unhide HB).trans xa)
        have HIa := hide ia
        clear HC1 cx0 cx1 cy0 cy1 px py ia xa HB
        obtain ⟨cx0, cx1, cy0, cy1⟩ := unhide HCX wa (unhide HBa)
        obtain ⟨px, py⟩ := unhide HPC wa (unhide HBa)
        have HC2 := hide (unhide HPut wa (unhide HIa))
        clear HPut
        go_wp2_with fail
        refine (unhide HC2).mono ?_
        rintro yy wb ⟨rfl, ib, xb⟩
        dsimp only
        have HBb := hide ((unhide HBa).trans xb)
        have HIb : Hid (IsBu wb B1 B1 ((b.keep xl).put yt)) := hide ib
        clear HC2 cx0 cx1 cy0 cy1 px py ib xb HBa HIa
        obtain ⟨cx0, cx1, cy0, cy1⟩ := unhide HCX wb (unhide HBb)
        obtain ⟨px, py⟩ := unhide HPC wb (unhide HBb)
        obtain ⟨W1a, W1b⟩ := W1
        obtain ⟨W2a, W2b⟩ := W2
        go_upto_region 18 with fail
        go_quiet (fail)
        have HBq := hide (below_drewN (unhide HBb) nq)
        have HIq := hide ((unhide HIb).on (below_drewN (Below.refl wb.heap.size wb) nq) (Nat.le_refl _))
        clear HBb HIb cx0 cx1 cy0 cy1 px py
        generalize wb.drewN nq = wq at *
        rw [show ((1 : Nat) : Int) = 1 from rfl] at HDr HK1
        generalize (b.keep xl).put yt = bS at *
        obtain ⟨cx0, cx1, cy0, cy1⟩ := unhide HCX wq (unhide HBq)
        have Wp := ov_wp hpb
        have HLT := hide hlt
        clear hpb hNb hp t1 t2 t3 m1 W1a W1b W2a W2b W4 hsx hsy HSX HSY HPC HWZ HBZ tn HI0
        rcases Nat.lt_or_ge p N with hpN | hpN
        · obtain ⟨gxd, gyd, rfl, rfl, hcd⟩ := unhide HCD p hpN
          obtain ⟨dx, dy⟩ := hcd wq (unhide HBq)
          obtain ⟨te, tl⟩ := ov_ne hpN
          clear hcd
          cases hx : (bkD A).getD p false with
          | true =>
            rw [hx] at dx
            have HN2 := hide ((unhide HN).2.1 hpN hx)
            clear hx HN hpN
            clear HDr HK1
            go_wp2_with fail
            go_roundw
            case rel => exact ⟨p + 1, T2, bS, by first | rfl | exact congrArg _ Wp | go_num, by first | rfl | exact congrArg _ W3 | go_num, hlt, HN2, HIq, HBq⟩
            case measure => exact ov_ms hlt Wp
          | false =>
            rw [hx] at dx
            cases hy : (bkD E).getD p false with
            | true =>
              rw [hy] at dy
              have HN2 := hide ((unhide HN).2.2.1 hpN hx hy)
              clear hx hy HN hpN
              have HC3 := hide (unhide HDr wq (unhide HIq))
              clear HDr HK1 HIq
              go_wp2_with fail
              refine (unhide HC3).mono ?_
              rintro yy wd ⟨rfl, id, xd⟩
              dsimp only
              have HBd := hide ((unhide HBq).trans xd)
              have HId := hide id
              clear HC3 HBq id xd
              go_wp2_with fail
              go_roundw
              case rel => exact ⟨p + 1, T2, bS.drop 1, by first | rfl | exact congrArg _ Wp | go_num, by first | rfl | exact congrArg _ W3 | go_num, hlt, HN2, HId, HBd⟩
              case measure => exact ov_ms hlt Wp
            | false =>
              rw [hy] at dy
              have HN2 := hide ((unhide HN).2.2.2 hpN hx hy)
              clear hx hy HN hpN
              have HC3 := hide (unhide HK1 wq (unhide HIq) (Nat.le_trans (unhide HBS) (unhide HBq).size))
              clear HDr HK1 HIq
              go_wp2_with fail
              refine (unhide HC3).mono ?_
              rintro yy wd ⟨rfl, id, xd⟩
              dsimp only
              have HBd := hide ((unhide HBq).trans xd)
              have HId := hide id
              clear HC3 HBq id xd
              go_wp2_with fail
              go_roundw
              case rel => exact ⟨p + 1, T2 + 1, bS.keep 1, by first | rfl | exact congrArg _ Wp | go_num, by first | rfl | exact congrArg _ W3 | go_num, hlt, HN2, HId, HBd⟩
              case measure => exact ov_ms hlt Wp
        · obtain rfl : p = N := Nat.le_antisymm (Nat.lt_succ_iff.1 hlt) hpN
          have HN2 := hide ((unhide HN).1 rfl)
          clear HN hpN
          clear HDr HK1
          go_wp2_with fail
          go_roundw
          case rel => exact ⟨p + 1, T2, bS, by first | rfl | exact congrArg _ Wp | go_num, by first | rfl | exact congrArg _ W3 | go_num, hlt, HN2, HIq, HBq⟩
          case measure => exact ov_ms hlt Wp
    · obtain rfl : p = N + 1 := Nat.le_antisymm hp (Nat.not_lt.1 hlt)
      obtain ⟨e1, e2⟩ := unhide HIE t b (unhide HI)
      have hbd := unhide HIB _ t b (unhide HI) (Nat.le_refl _)
      have t1 : decide ((N : Int) + 1 ≤ (N : Int)) = false := decide_eq_false (by omega)
      have t1' : decide (((N + 1 : Nat) : Int) ≤ (N : Int)) = false := decide_eq_false (by omega)
      have HDn := hide (buDone_at B1 B1 b wr (unhide HU) (ov_l (bw_b hbd.1)) (Nat.le_trans (unhide HBS) (unhide HB).size) (ov_d (bw_b hbd.1)))
      rw [e2] at HDn
      subst e1
      by_cases hT : 268435456 < t
      · have HT := hide hT
        obtain ⟨p0, p1, p2⟩ := big_t hT
        have HE := hide ((unhide HWZ).trans ((unhide HB).mono (unhide HBZ)))
        clear HDn hT hbd HI HU HB HIE HIN HIB
        go_wp2_with fail
        refine bodyPost_ret (results_tmp2 rfl _ _ _) rfl ⟨.slice none 0 0, rfl, ⟨rfl, .inl ⟨rfl, rfl⟩⟩, unhide HE⟩
      · obtain ⟨p0, p1, p2⟩ := big_f hT
        have HT := hide hT
        have HB9 := hide (unhide HB)
        clear hT hbd HI HU HB HIE HIN HIB
        go_wp2_with fail
        refine (unhide HDn).mono ?_
        rintro y wz ⟨v, rfl, ro, xz⟩
        dsimp only
        have HO := hide (row_low ro (unhide HBZ))
        have HE := hide ((unhide HWZ).trans (((unhide HB9).trans xz).mono (unhide HBZ)))
        clear HDn ro xz HB9
        go_wp2_with fail
        refine bodyPost_ret (results_tmp2 rfl _ _ _) rfl ⟨_, rfl, unhide HO, unhide HE⟩

end Go.Proofs.Ytjjdgfjlpkhgcaa
