/- Layer 10: contracts of seek's find and To, settledFrom's given. · scan.take: its states, and what holds at each label. -/
import Derived.Test.YtophdhpkinedgaaGreatDoorSs45
import Derived.Test.YtophdhpkinedgaaGreatDoorSs40
import Derived.Scope
import Derived.ScopeJumps

section
namespace Go.Proofs.YtophdhpkinedgaaGreatDoor
open Go.ChangeShapes Go.WideShapes Go.ChangeAt Go.RowKit
attribute [local go_sem] Oper.semAt_some fldS10

theorem EE_any {L : List Int} (hl : ∀ x ∈ L, 0 ≤ x ∧ x ≤ 255) (i : Nat) : ((EE L).getD i e0).1 ≤ L.length := by
  by_cases h : i < (EE L).length
  · exact EE_bytes hl h
  · rw [List.getD_eq_getElem?_getD, List.getElem?_eq_none (by omega)]
    exact Nat.zero_le _
theorem fdE_le {L : List Int} (hl : ∀ x ∈ L, 0 ≤ x ∧ x ≤ 255) (u p m : Int) : (fdE u p m (EE L)).1 ≤ L.length := by
  unfold fdE
  split
  · exact EE_any hl _
  · exact Nat.zero_le _
theorem toP_leS {L : List Int} (hl : ∀ x ∈ L, 0 ≤ x ∧ x ≤ 255) (u p m : Int) : toP u p 1 m (EE L) ≤ L.length := by
  unfold toP
  split
  · exact fdE_le hl u p m
  · exact Nat.zero_le _
set_option maxRecDepth 100000 in
set_option maxHeartbeats 2000000 in
theorem find10_no (g N : Nat) (u place m szT zb zr zu ze : Int) (zh zt : ByteArray) (w : World)
    (HLen : Hid (∀ X, Below w.heap.size w X → Calls Tryz.prog 31 #[.pointer (some ⟨g, 0, none⟩)] X fun y w' => y = .returned (.int .i64 (N : Int)) ∧ Below X.heap.size X w'))
    (HWe : Hid (∀ X, Below w.heap.size w X → Calls Tryz.prog 24 #[.pointer (some ⟨g, 0, none⟩)] X fun y w' => y = .returned (.agg #[.int .i64 zb, .int .i64 zr, .int .i64 zu, .int .i64 ze, .string zh, .string zt]) ∧ Below X.heap.size X w'))
    (HB1 : Hid (∀ X, Below w.heap.size w X → Calls Tryz.prog 49 #[.agg #[.int .i64 zb, .int .i64 zr, .int .i64 zu, .int .i64 ze], .int .i64 u] X fun y w' => y = .returned (.int .i64 szT) ∧ Below X.heap.size X w'))
    (h0 : place < 0 ∨ szT < place) :
    Calls Tryz.prog 48 #[.pointer (some ⟨g, 0, none⟩), .int .i64 u, .int .i64 place, .int .i64 m] w fun y w' => y = .returned (.tuple #[.int .i64 0, .int .i64 2]) ∧ Below w.heap.size w w' := by
  by_cases h1 : place < 0
  · have d0 : decide (place < 0) = true := decide_eq_true h1
    clear h0 HWe HB1
    go_enter Tryz.func48, Tryz.ntmps48
    go_wp2_with fail
    refine (unhide HLen w (Below.refl _ _)).mono ?_
    rintro y v1 ⟨rfl, x1⟩
    dsimp only
    go_wp2_with fail
    refine bodyPost_ret (results_tmp2 rfl _ _ _) rfl ?_
    exact ⟨rfl, x1⟩
  · have h2 : szT < place := by omega
    have d0 : decide (place < 0) = false := decide_eq_false h1
    have d1 : decide (szT < place) = true := decide_eq_true h2
    have d2 : decide (place > szT) = true := decide_eq_true h2
    clear h0
    go_enter Tryz.func48, Tryz.ntmps48
    go_wp2_with fail
    refine (unhide HLen w (Below.refl _ _)).mono ?_
    rintro y v1 ⟨rfl, x1⟩
    dsimp only
    go_wp2_with fail
    refine (unhide HWe v1 x1).mono ?_
    rintro y v2 ⟨rfl, x2⟩
    dsimp only
    have X2 := x1.trans (x2.mono x1.size)
    go_wp2_with fail
    refine (unhide HB1 v2 X2).mono ?_
    rintro y v3 ⟨rfl, x3⟩
    dsimp only
    have X3 := X2.trans (x3.mono X2.size)
    go_wp2_with fail
    refine bodyPost_ret (results_tmp2 rfl _ _ _) rfl ?_
    exact ⟨rfl, X3⟩
/-- what settledFrom must answer for a ruler that isn't Bytes -/
def SetP (g : Nat) (T : List Int) (u place : Int) (w : World) : Prop := ¬ u = 1 → 0 ≤ place → place ≤ (szE u T : Int) → ∃ near : Nat, NearA T u place near ∧
  ∀ X, Below w.heap.size w X → Calls Tryz.prog 80 #[.func (.func 81) #[.pointer (some ⟨g, 0, none⟩)] #[], .int .i64 (T.length : Int), .int .i64 u, .int .i64 place] X fun y w' => y = .returned (.int .i64 (near : Int)) ∧ Below X.heap.size X w'
theorem find10_at (g : Nat) (o : Option Nd) (u place m : Int) (w : World) (h : IsRo w g o) (hm : (txtO o).length ≤ 268435456) (hW : Wt w) (hu : isRu u = true) (hmo : isRu m = true) (hset : SetP g (txtO o) u place w) :
    Calls Tryz.prog 48 #[.pointer (some ⟨g, 0, none⟩), .int .i64 u, .int .i64 place, .int .i64 m] w fun y w' => y = .returned (.tuple #[.int .i64 ((fdE u place m (EE (txtO o))).1 : Int), .int .i64 (fdR u place m (EE (txtO o)))]) ∧ Below w.heap.size w w' := by
  have hb := bytes_of h
  have hbt : ∀ n, ∀ x ∈ (txtO o).take n, 0 ≤ x ∧ x ≤ 255 := fun n x hx => hb x (List.mem_of_mem_take hx)
  have hLen := fun (X : World) (hx : Below w.heap.size w X) => Len9_at g o X (h.on hx)
  have hWe := fun (X : World) (hx : Below w.heap.size w X) => Weld9_at g o X (h.on hx)
  rw [weq9] at hWe
  have hB : ∀ l : List Int, (∀ x ∈ l, 0 ≤ x ∧ x ≤ 255) → ∀ X, Below w.heap.size w X → Calls Tryz.prog 49 #[.agg #[.int .i64 (szL l).b, .int .i64 (szL l).r, .int .i64 (szL l).u, .int .i64 (szL l).e], .int .i64 u] X fun y w' => y = .returned (.int .i64 (szE u l : Int)) ∧ Below X.heap.size X w' := fun l hl X _ => by
    have := by10_at (szL l) u X
    rw [byZ_is hl hu] at this
    exact this
  by_cases hp : place < 0 ∨ (szE u (txtO o) : Int) < place
  · have hpl : isPl u place (EE (txtO o)) = false := by
      cases hc : isPl u place (EE (txtO o)) with
      | false => rfl
      | true =>
        have := (isPl_iff (inc_EE hb u)).1 hc
        rw [by_last hu] at this
        omega
    have f1 : fdR u place m (EE (txtO o)) = 2 := by unfold fdR; rw [hpl]; rfl
    have f2 : fdE u place m (EE (txtO o)) = e0 := by unfold fdE; rw [f1]; rfl
    rw [f1, f2]
    exact find10_no g _ u place m _ _ _ _ _ _ _ w (hide hLen) (hide hWe) (hide (hB _ hb)) hp
  · have h0 : 0 ≤ place := by omega
    have h1 : place ≤ (szE u (txtO o) : Int) := by omega
    have hz := szE_leS hb u
    obtain ⟨near, hN, hS⟩ : ∃ near : Nat, NearA (txtO o) u place near ∧ (¬ u = 1 → ∀ X, Below w.heap.size w X → Calls Tryz.prog 80 #[.func (.func 81) #[.pointer (some ⟨g, 0, none⟩)] #[], .int .i64 ((txtO o).length : Int), .int .i64 u, .int .i64 place] X fun y w' => y = .returned (.int .i64 (near : Int)) ∧ Below X.heap.size X w') := by
      by_cases hu1 : u = 1
      · exact ⟨place.toNat, .inl ⟨hu1, by omega⟩, fun h => absurd hu1 h⟩
      · obtain ⟨near, a, b⟩ := hset hu1 h0 h1
        exact ⟨near, a, fun _ => b⟩
    obtain ⟨k1, _, _, _⟩ := near_ok hb hu h0 h1 hN
    obtain ⟨f1, f2⟩ := find_ok (m := m) hb hu hmo h0 h1 hN
    have hf := flr_le (txtO o) (near - 4)
    generalize hlo : flr (txtO o) (near - 4) = lo at *
    have hs := szE_leS (hbt lo) u
    rw [List.length_take] at hs
    have hLb : ∀ x ∈ ((txtO o).drop lo).take (min (txtO o).length (near + 4) - lo), 0 ≤ x ∧ x ≤ 255 := fun x hx => hb x (List.mem_of_mem_drop (List.mem_of_mem_take hx))
    have hLl : (((txtO o).drop lo).take (min (txtO o).length (near + 4) - lo)).length ≤ 268435456 := by rw [List.length_take, List.length_drop]; omega
    have hP := toP_leS hLb u (place - (szE u ((txtO o).take lo) : Int)) m
    have hBy := fun (X : World) (hx : Below w.heap.size w X) => BytesR9_at g o lo (min (txtO o).length (near + 4)) X (h.on hx) (by omega) (by omega) hm
    have hAh := fun (X : World) (hx : Below w.heap.size w X) => ahead10_at g o lo X (h.on hx) (by omega) hm (hW.below hx)
    rw [szV_eq] at hAh
    generalize ((txtO o).drop lo).take (min (txtO o).length (near + 4) - lo) = L at *
    have hTo := fun (X : World) (a : Option Addr) (c : Nat) (hx : Below w.heap.size w X) (hI : IsB X a c L) => To_at a c L u (place - (szE u ((txtO o).take lo) : Int)) 1 m X hI (hW.below hx).1
    rw [f1] at hTo
    have hFl := fun (X : World) (hx : Below w.heap.size w X) => floor10_at g o (near - 4) X (h.on hx) hb (by omega) hm (hW.below hx)
    rw [hlo] at hFl
    refine (find10_of g (txtO o).length near (near - 4) lo (min (txtO o).length (near + 4)) u place m (szE u (txtO o) : Int) (szE u ((txtO o).take lo) : Int) (toP u (place - (szE u ((txtO o).take lo) : Int)) 1 m (EE L) : Int) (fdR u place m (EE (txtO o))) _ _ _ _ _ _ _ _ _ _ L w
      (hide hLen) (hide hWe) (hide (hB _ hb)) (hide hS) (hide hFl) (hide hBy) (hide hAh) (hide (hB _ (hbt lo))) (hide hTo) (hide hLb) (hide hLl) h0 h1 (fun hu1 => ?_)
      (wrap_in _ (by omega) (by omega)) (by omega) (wrap_in _ (by omega) (by omega)) (by omega) (wrap_in _ (by omega) (by omega)) (wrap_in _ (by omega) (by omega))).mono ?_
    · rcases hN with ⟨_, e⟩ | ⟨e, _⟩
      · exact e
      · exact absurd hu1 e
    · rintro y w' ⟨rfl, b⟩
      refine ⟨?_, b⟩
      by_cases hR : fdR u place m (EE (txtO o)) = 0
      · rw [if_pos hR, ← f2 hR]
        push_cast
        rfl
      · rw [if_neg hR]
        have : fdE u place m (EE (txtO o)) = e0 := by unfold fdE; rw [if_neg hR]
        rw [this]
        rfl
theorem fdE_inS {r p m : Int} {E : List Ed} (hE : Inc r E) (h : fdR r p m E = 0) : ∃ i, i < E.length ∧ fdE r p m E = E.getD i e0 := by
  have hp := (fdR_ok h).1
  refine ⟨selI r p m E, selI_lt hE hp, ?_⟩
  unfold fdE
  rw [if_pos h]
theorem To10_at (g : Nat) (o : Option Nd) (f place t m : Int) (w : World) (h : IsRo w g o) (hm : (txtO o).length ≤ 268435456) (hW : Wt w) (hk : (isRu f && (isRu t && isRu m)) = true) (hset : ∀ X, Below w.heap.size w X → SetP g (txtO o) f place X) :
    Calls Tryz.prog 16 #[.pointer (some ⟨g, 0, none⟩), .int .i64 f, .int .i64 place, .int .i64 t, .int .i64 m] w fun y w' => y = .returned (.tuple #[.int .i64 (toP f place t m (EE (txtO o)) : Int), .int .i64 (toR f place t m (EE (txtO o)))]) ∧ Below w.heap.size w w' := by
  have hb := bytes_of h
  have hk' := hk
  rw [Bool.and_eq_true, Bool.and_eq_true] at hk'
  obtain ⟨hf, ht, hmo⟩ := hk'
  have e1 : toP f place t m (EE (txtO o)) = byE t (fdE f place m (EE (txtO o))) := by unfold toP; rw [if_pos hk]
  have e2 : toR f place t m (EE (txtO o)) = fdR f place m (EE (txtO o)) := by unfold toR; rw [if_pos hk]
  rw [e1, e2]
  have hle := fdE_le hb f place m
  have hbt : ∀ x ∈ (txtO o).take (fdE f place m (EE (txtO o))).1, 0 ≤ x ∧ x ≤ 255 := fun x hx => hb x (List.mem_of_mem_take hx)
  have hAh := fun (X : World) (hx : Below w.heap.size w X) => ahead10_at g o (fdE f place m (EE (txtO o))).1 X (h.on hx) hle hm (hW.below hx)
  rw [szV_eq] at hAh
  have hkn := fun (X : World) (hx : Below w.heap.size w X) => known10_at f t m X (hW.below hx).1
  have ek : kn3 f t m = 0 := by unfold kn3; rw [if_pos hk]
  rw [ek] at hkn
  have hV : byZ t (szL ((txtO o).take (fdE f place m (EE (txtO o))).1)) = (byE t (fdE f place m (EE (txtO o))) : Int) := by
    rw [byZ_is hbt ht]
    by_cases hR : fdR f place m (EE (txtO o)) = 0
    · obtain ⟨i, hi, ei⟩ := fdE_inS (inc_EE hb f) hR
      rw [ei, sz_take hb ht hi]
    · have : fdE f place m (EE (txtO o)) = e0 := by unfold fdE; rw [if_neg hR]
      rw [this, by_e0, show e0.1 = 0 from rfl, List.take_zero, sz_nil]
  refine To10_of g (fdE f place m (EE (txtO o))).1 f place t m (fdR f place m (EE (txtO o))) _ _ _ _ _ w (hide hkn) (hide fun X hx => find10_at g o f place m X (h.on hx) hm (hW.below hx) hf hmo (hset X hx)) (hide fun _ => hAh) (hide fun X hx => hV ▸ by10_at _ t X) (fun hR => ?_)
  have : fdE f place m (EE (txtO o)) = e0 := by unfold fdE; rw [if_neg hR]
  rw [this, by_e0]
  rfl

end Go.Proofs.YtophdhpkinedgaaGreatDoor
end

section
namespace Go.Proofs.YtophdhpkinedgaaGreatDoor
open Go.ChangeShapes Go.WideShapes Go.ChangeAt Go.RowKit

/-- the state of memory: w0: at the call -/
structure Mem (g : Nat) (fed : Int) (w0 : World) (h b : List Int) (ts : List Tri) (a0 : Option Addr) (cap : Nat) (v : Value) (w : World) : Prop where
  sca : Sca w g h fed
  scf : Scf w0.heap.size g w0 w
  row : RT w0.heap.size v ts w
  isb : IsB w0 a0 cap b
  blk : ∀ a, a0 = some a → a.block < w0.heap.size ∧ a.block ≠ g
  tab0 : Tab w0
  gne : g ≠ 0
  len : ts.length + h.length + b.length ≤ 4194000
  low : g < w0.heap.size
theorem Mem.next {g : Nat} {fed : Int} {w0 w w' : World} {h h' : List Int} {x : Int} {r : List Int} {ts ts' : List Tri} {gb off cap : Nat} {v v' : Value} (hm : Mem g fed w0 h (x :: r) ts (some ⟨gb, off, none⟩) cap v w)
    (s : Sca w' g h' fed) (f : Scf w0.heap.size g w0 w') (r' : RT w0.heap.size v' ts' w') (hl : ts'.length + h'.length ≤ ts.length + h.length + 1) :
    Mem g fed w0 h' r ts' (if cap = 1 then some ⟨gb, off, none⟩ else some ⟨gb, off + 1, none⟩) (cap - 1) v' w' := by
  obtain ⟨h1, h2, h3, h4⟩ := hm.isb
  have hb := hm.blk _ rfl
  have hl0 := hm.len
  simp only [List.length_cons] at h1 h2 hl0
  have hL : Lies w0 gb off (x :: r) := by
    rcases h3 with h3 | ⟨gb', off', e, hL⟩
    · cases h3
    · cases e; exact hL
  refine ⟨s, f, r', ⟨by omega, by omega, Bs.from1 h1 hL, fun y hy => h4 y (List.mem_cons_of_mem _ hy)⟩, fun a ha => ?_, hm.tab0, hm.gne, by omega, hm.low⟩
  split at ha <;> cases ha <;> exact hb
theorem Mem.stay {g : Nat} {fed : Int} {w0 w w' : World} {h h' b : List Int} {ts ts' : List Tri} {a0 : Option Addr} {cap : Nat} {v v' : Value} (hm : Mem g fed w0 h b ts a0 cap v w)
    (s : Sca w' g h' fed) (f : Scf w0.heap.size g w0 w') (r' : RT w0.heap.size v' ts' w') (hl : ts'.length + h'.length ≤ ts.length + h.length) : Mem g fed w0 h' b ts' a0 cap v' w' :=
  ⟨s, f, r', hm.isb, hm.blk, hm.tab0, hm.gne, by have := hm.len; omega, hm.low⟩
theorem Mem.drew {g : Nat} {fed : Int} {w0 w : World} {h b : List Int} {ts : List Tri} {a0 : Option Addr} {cap : Nat} {v : Value} (hm : Mem g fed w0 h b ts a0 cap v w) (n : Nat) : Mem g fed w0 h b ts a0 cap v (w.drewN n) :=
  hm.stay hm.sca (hm.scf.drewN n) hm.row (Nat.le_refl _)
end Go.Proofs.YtophdhpkinedgaaGreatDoor
end
