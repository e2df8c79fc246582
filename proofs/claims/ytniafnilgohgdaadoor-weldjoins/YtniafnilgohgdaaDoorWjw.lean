/- The walk of WeldJoins. -/
import Derived.Test.YtniafnilgohgdaaDoorWmc
import Derived.Test.YtniafnilgohgdaaDoorWfx
import Derived.Test.YtniafnilgohgdaaDoorRwx
import Derived.Deep.AppendLies
import Derived.Deep.AppendSrc
namespace Go.Proofs.YtniafnilgohgdaaDoor
open Go.ChangeShapes Go.WideShapes Go.ChangeAt Go.RowKit

/-- bytes are appended to one's own, up to the text's limit -/
theorem appB {W : World} {B : Nat} {v : Value} {l m : List Int} {a0 : Option Addr} {cap : Nat} (ty : TypeId) (h : Own W B v l) (hB : B ≤ W.heap.size) (hm : IsB W a0 cap m) (hb : l.length + m.length ≤ 268435456) :
    ∃ v' W', (Builtin.append_ #[29, 29] ty #[v, .slice a0 m.length cap]).run Tryd.prog W = .ok v' W' ∧ Own W' B v' (l ++ m) ∧ Below B W W' := by
  obtain ⟨i, hi, hz, hs, hby⟩ := info_u8
  rcases Nat.eq_zero_or_pos m.length with h0 | h0
  · obtain rfl : m = [] := List.length_eq_zero_iff.1 h0
    have hsrc : Src Tryd.prog i.size 29 (.slice a0 0 cap) 0 [] W := by
      cases a0 with
      | none => exact Src.ofNil W Tryd.underlying29 cap
      | some x => exact Src.ofSlice W Tryd.underlying29 x 0 cap [] (by simp) (fun j u h => by simp at h) (fun u h => by cases h)
    refine ⟨v, W, ?_, by simpa using h, Below.refl _ _⟩
    rcases h.2 with ⟨rfl, h0⟩ | ⟨g, c, cur, rfl, hB, hg, hle, hm, hsz, htk⟩
    · simp [Builtin.append_, run_underlying Tryd.underlying29, sizeOf, typeInfo, hi, hsrc.len, hsrc.cells]
    · have := run_append_room_src (P := Tryd.prog) W 29 29 ty 5 i Tryd.underlying29 hi g 0 l.length c (.slice a0 0 cap) 0 [] hsrc (by omega) (fun j hj => absurd hj (Nat.not_lt_zero _)) (fun j hj => absurd hj (Nat.not_lt_zero _))
      simpa [World.setCells] using this
  · rcases hm.2.2.1 with h' | ⟨g, off, rfl, hL⟩
    · rw [h'] at h0; cases h0
    · obtain ⟨g', k, W', hrun, ho, hg, _, _⟩ := run_append_lies (P := Tryd.prog) W 29 ty B 5 i _ 1 1 Tryd.underlying29 hi hz hs hby rfl (by decide) v l.length (l.map (Value.int .u8)) h ⟨g, off, none⟩ m.length cap (m.map (Value.int .u8)) (by simp)
        (fun j u hj => by
          rw [Addr.add_lit]
          obtain ⟨x, hx, rfl⟩ : ∃ x, m[j]? = some x ∧ Value.int .u8 x = u := by simpa using hj
          have hjl : j < m.length := (List.getElem?_eq_some_iff.1 hx).1
          have := (hL j hjl).1
          simpa [List.getD, hx] using this) (fun u hu => by obtain ⟨x, _, rfl⟩ := List.mem_map.1 hu; rfl) h0 (by unfold maxLen; omega) (by omega) hB _ rfl
      exact ⟨_, W', hrun, by simpa [Own] using ho, (Below.refl B W).grown hg hB (fun k hk => (World.ownsRow.lt h k hk).1)⟩

set_option maxRecDepth 100000 in
set_option maxHeartbeats 8000000 in
theorem WeldJoins_any (a0 : Option Addr) (cA : Nat) (la : List Int) (a1 : Option Addr) (cB : Nat) (lb : List Int) (w : World) (hA : IsN w a0 cA la) (hB : IsN w a1 cB lb) (hW : Wt w) :
    Calls Tryd.prog 7 #[.slice a0 la.length cA, .slice a1 lb.length cB] w fun y w' => y = .returned (.bool true) ∧ Below w.heap.size w w' := by
  have lA := hA.1.2.1
  have lB := hB.1.2.1
  go_enter Tryd.func7, Tryd.ntmps7
  go_wp2_with fail
  refine (fixed5_at w hW).mono ?_
  rintro y w1 ⟨rfl, b1⟩
  dsimp only
  by_cases hlong : (268435456 : Int) < (la.length : Int) + (lb.length : Int)
  · go_wp2_with fail
    go_ret
    exact ⟨rfl, b1⟩
  · have hn : la.length + lb.length ≤ 268435456 := by omega
    have IA : Hid (∀ W, Below w.heap.size w W → IsN W a0 cA la) := hide (fun W hb => hA.below hb (Nat.le_refl _))
    have IB : Hid (∀ W, Below w.heap.size w W → IsN W a1 cB lb) := hide (fun W hb => hB.below hb (Nat.le_refl _))
    have WW : Hid (∀ W, Below w.heap.size w W → Wt W) := hide (fun W hb => hW.below hb)
    have hbA := hA.1.2.2.2
    have hbB := hB.1.2.2.2
    have HBA := hide hbA
    have HBB := hide hbB
    clear hbA hbB hA hB hW
    obtain ⟨v2, w2, r2, o2, x2⟩ := run_copy_own w1 a0 cA la 29 (unhide IA _ b1).1
    have b2 := b1.trans (x2.mono b1.size)
    obtain ⟨v3, w3, r3, o3, x3⟩ := appB (a0 := a1) (cap := cB) 29 o2 x2.size (unhide IB _ b2).1 hn
    have b3 := b2.trans (x3.mono b1.size)
    obtain ⟨t, ht⟩ : ∃ t, t = la ++ lb := ⟨_, rfl⟩
    rw [← ht] at o3
    have hbt : ∀ x ∈ t, 0 ≤ x ∧ x ≤ 255 := fun x hx => by
      rw [ht] at hx
      rcases List.mem_append.1 hx with h | h
      · exact unhide HBA x h
      · exact unhide HBB x h
    have htl : t.length ≤ 268435456 := by rw [ht, List.length_append]; omega
    obtain ⟨a3, c3, rfl, i3⟩ := o3.isB hbt (by omega)
    have n3 : a3 = none → c3 = 0 := fun e => by
      rcases o3.2 with ⟨e2, _⟩ | ⟨g, c, cur, e2, _⟩
      · injection e2
      · rw [e] at e2; injection e2 with e3; cases e3
    have IT : Hid (∀ W, Below w3.heap.size w3 W → IsN W a3 c3 t) := hide (fun W hb => IsN.below ⟨i3, n3⟩ hb (Nat.le_refl _))
    have hj := join_of (unhide HBA) (unhide HBB) hn
    rw [← ht] at hj
    have JN := hide hj
    have e1 := both_e (a := la) (b := lb)
    obtain ⟨e2, e3⟩ := both_ru (unhide HBA) (unhide HBB)
    obtain ⟨e4, e5⟩ := near_seam (a := la) (b := lb)
    rw [← e4] at e2
    rw [← e5] at e3
    rw [← ht] at e1 e2 e3
    have zA := szL_in (l := la) (by omega)
    have zB := szL_in (l := lb) (by omega)
    have zT := szL_in htl
    have hT3 := hide ht
    have R2 := hide r2
    have R3 := hide r3
    have BA := byw_of (unhide HBA)
    have BB := byw_of (unhide HBB)
    have BT := hide (byw_of hbt)
    clear r2 r3 o2 o3 x2 x3 i3 n3 hj e4 e5 ht
    go_wp2_with (at_builtin; first
      | (refine wpList_append_known rfl _ _ 29 29 rfl _ _ rfl rfl _ _ (unhide R2) ?_; clear R2)
      | (refine wpList_append_known rfl _ _ 29 29 rfl _ _ rfl rfl _ _ (unhide R3) ?_; clear R3))
    refine (Of_at a0 cA la w3 (unhide IA _ b3) (by omega) (unhide WW _ b3)).mono ?_
    unfold weV
    rintro y w4 ⟨rfl, q4⟩
    have b4 := b3.trans (q4.mono b3.size)
    dsimp only
    go_wp2_with fail
    refine (Of_at a1 cB lb w4 (unhide IB _ b4) (by omega) (unhide WW _ b4)).mono ?_
    unfold weV
    rintro y w5 ⟨rfl, q5⟩
    have b5 := b4.trans (q5.mono b4.size)
    dsimp only
    go_wp2_with fail
    refine (Join_at (ofL la) (ofL lb) w5 (unhide WW _ b5) BA BB).mono ?_
    rw [unhide JN]
    dsimp only
    unfold weV
    rintro y w6 ⟨rfl, q6⟩
    have b6 := b5.trans (q6.mono b5.size)
    have k6 : Below w3.heap.size w3 w6 := (q4.trans (q5.mono q4.size)).trans (q6.mono (by have := q4.size; have := q5.size; omega))
    clear q4 q5 q6 b4 b5
    dsimp only
    have q7 : Below w6.heap.size w6 (w6.alloc (.cells #[.int .i64 (ofL t).z.b, .int .i64 (ofL t).z.r, .int .i64 (ofL t).z.u, .int .i64 (ofL t).z.e, .string (strOfNums (ofL t).h), .string (strOfNums (ofL t).t)] 26)) := (Below.refl _ _).alloc (Nat.le_refl _) _
    have xw := push_get w6 (.cells #[.int .i64 (ofL t).z.b, .int .i64 (ofL t).z.r, .int .i64 (ofL t).z.u, .int .i64 (ofL t).z.e, .string (strOfNums (ofL t).h), .string (strOfNums (ofL t).t)] 26)
    have zw : w6.heap.size < (w6.alloc (.cells #[.int .i64 (ofL t).z.b, .int .i64 (ofL t).z.r, .int .i64 (ofL t).z.u, .int .i64 (ofL t).z.e, .string (strOfNums (ofL t).h), .string (strOfNums (ofL t).t)] 26)).heap.size := by rw [World.size_alloc]; omega
    go_upto_region 7 with fail
    have b7 := b6.trans (q7.mono b6.size)
    have k7 := k6.trans (q7.mono k6.size)
    generalize (w6.alloc (.cells #[.int .i64 (ofL t).z.b, .int .i64 (ofL t).z.r, .int .i64 (ofL t).z.u, .int .i64 (ofL t).z.e, .string (strOfNums (ofL t).h), .string (strOfNums (ofL t).t)] 26)) = w7 at *
    generalize w6.heap.size = gw at *
    clear q7 b6 k6
    go_wp2_with fail
    refine (Of_at a0 cA la w7 (unhide IA _ b7) (by omega) (unhide WW _ b7)).mono ?_
    unfold weV
    rintro y w8 ⟨rfl, q8⟩
    have b8 := b7.trans (q8.mono b7.size)
    dsimp only
    go_wp2_with fail
    refine (Of_at a1 cB lb w8 (unhide IB _ b8) (by omega) (unhide WW _ b8)).mono ?_
    unfold weV
    rintro y w9 ⟨rfl, q9⟩
    have b9 := b8.trans (q9.mono b8.size)
    dsimp only
    go_wp2_with fail
    refine (SeamX_at (ofL la) (ofL lb) w9 (unhide WW _ b9) BA BB).mono ?_
    rw [unhide JN]
    dsimp only
    unfold szV
    rintro y w10 ⟨rfl, q10⟩
    have b10 := b9.trans (q10.mono b9.size)
    have kk : Below w7.heap.size w7 w10 := (q8.trans (q9.mono q8.size)).trans (q10.mono (by have := q8.size; have := q9.size; omega))
    have k10 := k7.trans (kk.mono k7.size)
    have xw10 := (kk.block gw zw).trans xw
    have z10 := kk.size
    clear q8 q9 q10 b8 b9 kk
    dsimp only
    have q11 : Below w10.heap.size w10 (w10.alloc (.cells #[.int .i64 (seamL (tail3 la) (lb.take 3)).b, .int .i64 (seamL (tail3 la) (lb.take 3)).r, .int .i64 (seamL (tail3 la) (lb.take 3)).u, .int .i64 (seamL (tail3 la) (lb.take 3)).e] 24)) := (Below.refl _ _).alloc (Nat.le_refl _) _
    have xz := push_get w10 (.cells #[.int .i64 (seamL (tail3 la) (lb.take 3)).b, .int .i64 (seamL (tail3 la) (lb.take 3)).r, .int .i64 (seamL (tail3 la) (lb.take 3)).u, .int .i64 (seamL (tail3 la) (lb.take 3)).e] 24)
    have zz : w10.heap.size < (w10.alloc (.cells #[.int .i64 (seamL (tail3 la) (lb.take 3)).b, .int .i64 (seamL (tail3 la) (lb.take 3)).r, .int .i64 (seamL (tail3 la) (lb.take 3)).u, .int .i64 (seamL (tail3 la) (lb.take 3)).e] 24)).heap.size := by rw [World.size_alloc]; omega
    go_upto_region 8 with fail
    have b11 := b10.trans (q11.mono b10.size)
    have k11 := k10.trans (q11.mono k10.size)
    have xw11 := (q11.block gw (by omega)).trans xw10
    generalize (w10.alloc (.cells #[.int .i64 (seamL (tail3 la) (lb.take 3)).b, .int .i64 (seamL (tail3 la) (lb.take 3)).r, .int .i64 (seamL (tail3 la) (lb.take 3)).u, .int .i64 (seamL (tail3 la) (lb.take 3)).e] 24)) = w11 at *
    have zw11 : gw < w11.heap.size := by omega
    generalize w10.heap.size = gz at *
    clear q11 b10 k10 xw10 xw zw
    go_wp2_with fail
    refine (Sizes_at a0 cA la w11 (unhide IA _ b11) (by omega) (unhide WW _ b11)).mono ?_
    unfold szV
    rintro y w12 ⟨rfl, q12⟩
    have b12 := b11.trans (q12.mono b11.size)
    dsimp only
    go_wp2_with fail
    refine (Sizes_at a1 cB lb w12 (unhide IB _ b12) (by omega) (unhide WW _ b12)).mono ?_
    unfold szV
    rintro y w13 ⟨rfl, q13⟩
    have b13 := b12.trans (q13.mono b12.size)
    have k13 := k11.trans ((q12.trans (q13.mono q12.size)).mono k11.size)
    dsimp only
    go_wp2_with fail
    refine (Sizes_at a3 c3 t w13 (unhide IT _ k13) htl (unhide WW _ b13)).mono ?_
    unfold szV
    rintro y w14 ⟨rfl, q14⟩
    have b14 := b13.trans (q14.mono b13.size)
    have kk : Below w11.heap.size w11 w14 := (q12.trans (q13.mono q12.size)).trans (q14.mono (by have := q12.size; have := q13.size; omega))
    have k14 := k11.trans (kk.mono k11.size)
    have xw14 := (kk.block gw zw11).trans xw11
    have xz14 := (kk.block gz zz).trans xz
    have z14 := kk.size
    clear q12 q13 q14 b12 b13 k13 kk xw11 xz
    have za : (w14.alloc (.cells #[.int .i64 (szL la).b, .int .i64 (szL la).r, .int .i64 (szL la).u, .int .i64 (szL la).e] 24)).heap.size = w14.heap.size + 1 := World.size_alloc ..
    have zb : ((w14.alloc (.cells #[.int .i64 (szL la).b, .int .i64 (szL la).r, .int .i64 (szL la).u, .int .i64 (szL la).e] 24)).alloc (.cells #[.int .i64 (szL lb).b, .int .i64 (szL lb).r, .int .i64 (szL lb).u, .int .i64 (szL lb).e] 24)).heap.size = w14.heap.size + 1 + 1 := by rw [World.size_alloc, za]
    have zc : (((w14.alloc (.cells #[.int .i64 (szL la).b, .int .i64 (szL la).r, .int .i64 (szL la).u, .int .i64 (szL la).e] 24)).alloc (.cells #[.int .i64 (szL lb).b, .int .i64 (szL lb).r, .int .i64 (szL lb).u, .int .i64 (szL lb).e] 24)).alloc (.cells #[.int .i64 (szL t).b, .int .i64 (szL t).r, .int .i64 (szL t).u, .int .i64 (szL t).e] 24)).heap.size = w14.heap.size + 1 + 1 + 1 := by rw [World.size_alloc, zb]
    have q15 : Below w14.heap.size w14 (((w14.alloc (.cells #[.int .i64 (szL la).b, .int .i64 (szL la).r, .int .i64 (szL la).u, .int .i64 (szL la).e] 24)).alloc (.cells #[.int .i64 (szL lb).b, .int .i64 (szL lb).r, .int .i64 (szL lb).u, .int .i64 (szL lb).e] 24)).alloc (.cells #[.int .i64 (szL t).b, .int .i64 (szL t).r, .int .i64 (szL t).u, .int .i64 (szL t).e] 24)) := (((Below.refl _ _).alloc (Nat.le_refl _) _).alloc (by omega) _).alloc (by omega) _
    have xx : (((w14.alloc (.cells #[.int .i64 (szL la).b, .int .i64 (szL la).r, .int .i64 (szL la).u, .int .i64 (szL la).e] 24)).alloc (.cells #[.int .i64 (szL lb).b, .int .i64 (szL lb).r, .int .i64 (szL lb).u, .int .i64 (szL lb).e] 24)).alloc (.cells #[.int .i64 (szL t).b, .int .i64 (szL t).r, .int .i64 (szL t).u, .int .i64 (szL t).e] 24)).heap[w14.heap.size]? = some (.cells #[.int .i64 (szL la).b, .int .i64 (szL la).r, .int .i64 (szL la).u, .int .i64 (szL la).e] 24 (0, 0)) := by
      rw [heap_alloc_old _ _ (by omega), heap_alloc_old _ _ (by omega)]
      exact push_get w14 _
    have xy : (((w14.alloc (.cells #[.int .i64 (szL la).b, .int .i64 (szL la).r, .int .i64 (szL la).u, .int .i64 (szL la).e] 24)).alloc (.cells #[.int .i64 (szL lb).b, .int .i64 (szL lb).r, .int .i64 (szL lb).u, .int .i64 (szL lb).e] 24)).alloc (.cells #[.int .i64 (szL t).b, .int .i64 (szL t).r, .int .i64 (szL t).u, .int .i64 (szL t).e] 24)).heap[w14.heap.size + 1]? = some (.cells #[.int .i64 (szL lb).b, .int .i64 (szL lb).r, .int .i64 (szL lb).u, .int .i64 (szL lb).e] 24 (0, 0)) := by
      rw [heap_alloc_old _ _ (by omega)]
      have := push_get (w14.alloc (.cells #[.int .i64 (szL la).b, .int .i64 (szL la).r, .int .i64 (szL la).u, .int .i64 (szL la).e] 24)) (.cells #[.int .i64 (szL lb).b, .int .i64 (szL lb).r, .int .i64 (szL lb).u, .int .i64 (szL lb).e] 24)
      rwa [za] at this
    have xs : (((w14.alloc (.cells #[.int .i64 (szL la).b, .int .i64 (szL la).r, .int .i64 (szL la).u, .int .i64 (szL la).e] 24)).alloc (.cells #[.int .i64 (szL lb).b, .int .i64 (szL lb).r, .int .i64 (szL lb).u, .int .i64 (szL lb).e] 24)).alloc (.cells #[.int .i64 (szL t).b, .int .i64 (szL t).r, .int .i64 (szL t).u, .int .i64 (szL t).e] 24)).heap[w14.heap.size + 1 + 1]? = some (.cells #[.int .i64 (szL t).b, .int .i64 (szL t).r, .int .i64 (szL t).u, .int .i64 (szL t).e] 24 (0, 0)) := by
      have := push_get ((w14.alloc (.cells #[.int .i64 (szL la).b, .int .i64 (szL la).r, .int .i64 (szL la).u, .int .i64 (szL la).e] 24)).alloc (.cells #[.int .i64 (szL lb).b, .int .i64 (szL lb).r, .int .i64 (szL lb).u, .int .i64 (szL lb).e] 24)) (.cells #[.int .i64 (szL t).b, .int .i64 (szL t).r, .int .i64 (szL t).u, .int .i64 (szL t).e] 24)
      rwa [zb] at this
    have ZC : Hid (w14.heap.size + 1 + 1 < (((w14.alloc (.cells #[.int .i64 (szL la).b, .int .i64 (szL la).r, .int .i64 (szL la).u, .int .i64 (szL la).e] 24)).alloc (.cells #[.int .i64 (szL lb).b, .int .i64 (szL lb).r, .int .i64 (szL lb).u, .int .i64 (szL lb).e] 24)).alloc (.cells #[.int .i64 (szL t).b, .int .i64 (szL t).r, .int .i64 (szL t).u, .int .i64 (szL t).e] 24)).heap.size) := hide (by omega)
    clear za zb zc
    dsimp only
    go_upto_region 9 with fail
    have b15 := b14.trans (q15.mono b14.size)
    have k15 := k14.trans (q15.mono k14.size)
    have xw15 := (q15.block gw (by omega)).trans xw14
    have xz15 := (q15.block gz (by omega)).trans xz14
    have zcc := unhide ZC
    clear ZC q15 xw14 xz14
    generalize (((w14.alloc (.cells #[.int .i64 (szL la).b, .int .i64 (szL la).r, .int .i64 (szL la).u, .int .i64 (szL la).e] 24)).alloc (.cells #[.int .i64 (szL lb).b, .int .i64 (szL lb).r, .int .i64 (szL lb).u, .int .i64 (szL lb).e] 24)).alloc (.cells #[.int .i64 (szL t).b, .int .i64 (szL t).r, .int .i64 (szL t).u, .int .i64 (szL t).e] 24)) = w15 at *
    have z15 : gw < w15.heap.size ∧ gz < w15.heap.size ∧ w14.heap.size < w15.heap.size ∧ w14.heap.size + 1 < w15.heap.size := by omega
    generalize w14.heap.size + 1 + 1 = gs at *
    generalize w14.heap.size + 1 = gy at *
    generalize w14.heap.size = gx at *
    obtain ⟨zi, zi0⟩ := seamL_in (s := tail3 la) (t := lb.take 3)
    obtain ⟨⟨_, _⟩, ⟨zi1, zi2⟩, ⟨zi3, zi4⟩, zi5, zi6⟩ := zi
    obtain ⟨⟨_, _⟩, ⟨xi1, xi2⟩, ⟨xi3, xi4⟩, xi5, xi6⟩ := zA
    obtain ⟨⟨_, _⟩, ⟨yi1, yi2⟩, ⟨yi3, yi4⟩, yi5, yi6⟩ := zB
    obtain ⟨⟨_, _⟩, ⟨si1, si2⟩, ⟨si3, si4⟩, si5, si6⟩ := zT
    have hr : (szL la).r + (szL lb).r - (szL t).r = (seamL (tail3 la) (lb.take 3)).r := by show (rnN la : Int) + (rnN lb : Int) - (rnN t : Int) = seamR (tail3 la ++ lb.take 3) (tail3 la).length; omega
    have hu : (szL la).u + (szL lb).u - (szL t).u = (seamL (tail3 la) (lb.take 3)).u := by show unN la + unN lb - unN t = seamU (tail3 la ++ lb.take 3) (tail3 la).length; omega
    have he : (szL la).e + (szL lb).e - (szL t).e = (seamL (tail3 la) (lb.take 3)).e := by show endsN la + endsN lb - endsN t = seamE (tail3 la) (lb.take 3); omega
    generalize (seamL (tail3 la) (lb.take 3)).b = zb at *
    generalize (seamL (tail3 la) (lb.take 3)).r = zr at *
    generalize (seamL (tail3 la) (lb.take 3)).u = zu at *
    generalize (seamL (tail3 la) (lb.take 3)).e = ze at *
    generalize (szL la).b = xb at *
    generalize (szL la).r = xr at *
    generalize (szL la).u = xu at *
    generalize (szL la).e = xe at *
    generalize (szL lb).b = yb at *
    generalize (szL lb).r = yr at *
    generalize (szL lb).u = yu at *
    generalize (szL lb).e = ye at *
    generalize (szL t).b = sb at *
    generalize (szL t).r = sr at *
    generalize (szL t).u = su at *
    generalize (szL t).e = se at *
    have g1 : IntKind.i64.wrap (xr + yr) = xr + yr := by rw [IntKind.wrap_i64]; omega
    have g2 : IntKind.i64.wrap (xu + yu) = xu + yu := by rw [IntKind.wrap_i64]; omega
    have g3 : IntKind.i64.wrap (xe + ye) = xe + ye := by rw [IntKind.wrap_i64]; omega
    have g4 : IntKind.i64.wrap zr = zr := by rw [IntKind.wrap_i64]; omega
    have g5 : IntKind.i64.wrap zu = zu := by rw [IntKind.wrap_i64]; omega
    have g6 : IntKind.i64.wrap ze = ze := by rw [IntKind.wrap_i64]; omega
    obtain ⟨w0', w1', w2', w3', w4', w5', _⟩ := cells6 xw15
    obtain ⟨z0', z1', z2', z3', _⟩ := cells4 xz15
    obtain ⟨x0', x1', x2', x3', _⟩ := cells4 xx
    obtain ⟨y0', y1', y2', y3', _⟩ := cells4 xy
    obtain ⟨s0', s1', s2', s3', _⟩ := cells4 xs
    have HS0 : Hid (w15.drew.cell? ⟨gw, 0, none⟩ = some (.int .i64 (ofL t).z.b) ∧ w15.drew.cell? ⟨gw, 1, none⟩ = some (.int .i64 (ofL t).z.r) ∧ w15.drew.cell? ⟨gw, 2, none⟩ = some (.int .i64 (ofL t).z.u) ∧ w15.drew.cell? ⟨gw, 3, none⟩ = some (.int .i64 (ofL t).z.e) ∧ w15.drew.cell? ⟨gw, 4, none⟩ = some (.string (strOfNums (ofL t).h)) ∧ w15.drew.cell? ⟨gw, 5, none⟩ = some (.string (strOfNums (ofL t).t)) ∧ w15.drew.cell? ⟨gz, 0, none⟩ = some (.int .i64 zb) ∧ w15.drew.cell? ⟨gz, 1, none⟩ = some (.int .i64 zr) ∧ w15.drew.cell? ⟨gz, 2, none⟩ = some (.int .i64 zu) ∧ w15.drew.cell? ⟨gz, 3, none⟩ = some (.int .i64 ze) ∧ w15.drew.cell? ⟨gx, 0, none⟩ = some (.int .i64 xb) ∧ w15.drew.cell? ⟨gx, 1, none⟩ = some (.int .i64 xr) ∧ w15.drew.cell? ⟨gx, 2, none⟩ = some (.int .i64 xu) ∧ w15.drew.cell? ⟨gx, 3, none⟩ = some (.int .i64 xe) ∧ w15.drew.cell? ⟨gy, 0, none⟩ = some (.int .i64 yb) ∧ w15.drew.cell? ⟨gy, 1, none⟩ = some (.int .i64 yr) ∧ w15.drew.cell? ⟨gy, 2, none⟩ = some (.int .i64 yu) ∧ w15.drew.cell? ⟨gy, 3, none⟩ = some (.int .i64 ye) ∧ w15.drew.cell? ⟨gs, 0, none⟩ = some (.int .i64 sb) ∧ w15.drew.cell? ⟨gs, 1, none⟩ = some (.int .i64 sr) ∧ w15.drew.cell? ⟨gs, 2, none⟩ = some (.int .i64 su) ∧ w15.drew.cell? ⟨gs, 3, none⟩ = some (.int .i64 se)) := hide ⟨w0', w1', w2', w3', w4', w5', z0', z1', z2', z3', x0', x1', x2', x3', y0', y1', y2', y3', s0', s1', s2', s3'⟩
    have bd : Below w.heap.size w w15.drew := Below.drewN b15 1
    have kd : Below w3.heap.size w3 w15.drew := Below.drewN k15 1
    have zd : w15.drew.heap.size = w15.heap.size := rfl
    clear w0' w1' w2' w3' w4' w5' z0' z1' z2' z3' x0' x1' x2' x3' y0' y1' y2' y3' s0' s1' s2' s3' xw15 xz15 xx xy xs e1 e2 e3
    refine regionL (S := fun w' => w'.cell? ⟨gw, 0, none⟩ = some (.int .i64 (ofL t).z.b) ∧ w'.cell? ⟨gw, 1, none⟩ = some (.int .i64 (ofL t).z.r) ∧ w'.cell? ⟨gw, 2, none⟩ = some (.int .i64 (ofL t).z.u) ∧ w'.cell? ⟨gw, 3, none⟩ = some (.int .i64 (ofL t).z.e) ∧ w'.cell? ⟨gw, 4, none⟩ = some (.string (strOfNums (ofL t).h)) ∧ w'.cell? ⟨gw, 5, none⟩ = some (.string (strOfNums (ofL t).t)) ∧ w'.cell? ⟨gz, 0, none⟩ = some (.int .i64 zb) ∧ w'.cell? ⟨gz, 1, none⟩ = some (.int .i64 zr) ∧ w'.cell? ⟨gz, 2, none⟩ = some (.int .i64 zu) ∧ w'.cell? ⟨gz, 3, none⟩ = some (.int .i64 ze) ∧ w'.cell? ⟨gx, 0, none⟩ = some (.int .i64 xb) ∧ w'.cell? ⟨gx, 1, none⟩ = some (.int .i64 xr) ∧ w'.cell? ⟨gx, 2, none⟩ = some (.int .i64 xu) ∧ w'.cell? ⟨gx, 3, none⟩ = some (.int .i64 xe) ∧ w'.cell? ⟨gy, 0, none⟩ = some (.int .i64 yb) ∧ w'.cell? ⟨gy, 1, none⟩ = some (.int .i64 yr) ∧ w'.cell? ⟨gy, 2, none⟩ = some (.int .i64 yu) ∧ w'.cell? ⟨gy, 3, none⟩ = some (.int .i64 ye) ∧ w'.cell? ⟨gs, 0, none⟩ = some (.int .i64 sb) ∧ w'.cell? ⟨gs, 1, none⟩ = some (.int .i64 sr) ∧ w'.cell? ⟨gs, 2, none⟩ = some (.int .i64 su) ∧ w'.cell? ⟨gs, 3, none⟩ = some (.int .i64 se)) (fun _ => false) (by kernel_rfl) ?_
    generalize w15.drew = wd at *
    refine anyL_take (i := 0) (v := ?v0) rfl (by kernel_rfl) (by kernel_rfl) (by kernel_rfl) (by kernel_rfl) (fun _ _ _ h => h) (Or.inl ⟨by rfl, ?h0⟩) (unhide HS0) ?_
    case h0 => (intro w hSw; (try dsimp only at hSw); go_simp) <;> with_reducible rfl
    simp only [Act.put, List.getElem_toArray, List.getElem_cons_zero, List.setIfInBounds_toArray, List.set_cons_zero, List.set_cons_succ]
    refine anyL_take (i := 1) (v := .bool true) rfl (by kernel_rfl) (by kernel_rfl) (by kernel_rfl) (by kernel_rfl) (fun _ _ _ h => h) (Or.inl ⟨by rfl, ?h1⟩) (unhide HS0) ?_
    case h1 => (intro w hSw; (try dsimp only at hSw); go_simp)
    simp only [Act.put, List.getElem_toArray, List.getElem_cons_zero, List.getElem_cons_succ, List.setIfInBounds_toArray, List.set_cons_zero, List.set_cons_succ]
    refine anyL_take (i := 2) (v := ?v2) rfl (by kernel_rfl) (by kernel_rfl) (by kernel_rfl) (by kernel_rfl) (fun _ _ _ h => h) (Or.inl ⟨by rfl, ?h2⟩) (unhide HS0) ?_
    case h2 => (intro w hSw; (try dsimp only at hSw); go_simp) <;> with_reducible rfl
    simp only [Act.put, List.getElem_toArray, List.getElem_cons_zero, List.getElem_cons_succ, List.setIfInBounds_toArray, List.set_cons_zero, List.set_cons_succ]
    refine anyL_take (i := 3) (v := ?v3) rfl (by kernel_rfl) (by kernel_rfl) (by kernel_rfl) (by kernel_rfl) (fun _ _ _ h => h) (Or.inl ⟨by rfl, ?h3⟩) (unhide HS0) ?_
    case h3 => (intro w hSw; (try dsimp only at hSw); go_simp) <;> with_reducible rfl
    simp only [Act.put, List.getElem_toArray, List.getElem_cons_zero, List.getElem_cons_succ, List.setIfInBounds_toArray, List.set_cons_zero, List.set_cons_succ]
    refine anyL_take (i := 4) (v := .bool true) rfl (by kernel_rfl) (by kernel_rfl) (by kernel_rfl) (by kernel_rfl) (fun _ _ _ h => h) (Or.inl ⟨by rfl, ?h4⟩) (unhide HS0) ?_
    case h4 => (intro w hSw; (try dsimp only at hSw); go_simp)
    simp only [Act.put, List.getElem_toArray, List.getElem_cons_zero, List.getElem_cons_succ, List.setIfInBounds_toArray, List.set_cons_zero, List.set_cons_succ]
    refine anyL_take (i := 5) (v := .bool true) rfl (by kernel_rfl) (by kernel_rfl) (by kernel_rfl) (by kernel_rfl) (fun _ _ _ h => h) (Or.inl ⟨by rfl, ?h5⟩) (unhide HS0) ?_
    case h5 => (intro w hSw; (try dsimp only at hSw); go_simp)
    simp only [Act.put, List.getElem_toArray, List.getElem_cons_zero, List.getElem_cons_succ, List.setIfInBounds_toArray, List.set_cons_zero, List.set_cons_succ]
    refine anyL_take (i := 6) (v := ?v6) rfl (by kernel_rfl) (by kernel_rfl) (by kernel_rfl) (by kernel_rfl) (fun _ _ _ h => h) (Or.inl ⟨by rfl, ?h6⟩) (unhide HS0) ?_
    case h6 => (intro w hSw; (try dsimp only at hSw); go_simp) <;> with_reducible rfl
    simp only [Act.put, List.getElem_toArray, List.getElem_cons_zero, List.getElem_cons_succ, List.setIfInBounds_toArray, List.set_cons_zero, List.set_cons_succ]
    refine anyL_take (i := 7) (v := ?v7) rfl (by kernel_rfl) (by kernel_rfl) (by kernel_rfl) (by kernel_rfl) (fun _ _ _ h => h) (Or.inl ⟨by rfl, ?h7⟩) (unhide HS0) ?_
    case h7 => (intro w hSw; (try dsimp only at hSw); go_simp) <;> with_reducible rfl
    simp only [Act.put, List.getElem_toArray, List.getElem_cons_zero, List.getElem_cons_succ, List.setIfInBounds_toArray, List.set_cons_zero, List.set_cons_succ]
    refine anyL_take (i := 8) (v := ?v8) rfl (by kernel_rfl) (by kernel_rfl) (by kernel_rfl) (by kernel_rfl) (fun _ _ _ h => h) (Or.inl ⟨by rfl, ?h8⟩) (unhide HS0) ?_
    case h8 => (intro w hSw; (try dsimp only at hSw); go_simp) <;> with_reducible rfl
    simp only [Act.put, List.getElem_toArray, List.getElem_cons_zero, List.getElem_cons_succ, List.setIfInBounds_toArray, List.set_cons_zero, List.set_cons_succ]
    refine anyL_ready (rs := [9]) (by kernel_rfl) (by simp) ?_
    refine AllL.cons rfl (fun K hK => ?_) AllL.nil
    go_simp
    refine (Of_at a3 c3 t wd (unhide IT _ kd) htl (unhide WW _ bd)).mono ?_
    unfold weV
    rintro y w16 ⟨rfl, q16⟩
    have b16 := bd.trans (q16.mono bd.size)
    have c := unhide HS0
    have ke : ∀ g j v, g < w15.heap.size → wd.cell? ⟨g, j, none⟩ = some v → w16.cell? ⟨g, j, none⟩ = some v := fun g j v hg hv => (q16.cell (p := ⟨g, j, none⟩) (by show g < _; omega)).trans hv
    have HS1 : Hid (w16.cell? ⟨gw, 0, none⟩ = some (.int .i64 (ofL t).z.b) ∧ w16.cell? ⟨gw, 1, none⟩ = some (.int .i64 (ofL t).z.r) ∧ w16.cell? ⟨gw, 2, none⟩ = some (.int .i64 (ofL t).z.u) ∧ w16.cell? ⟨gw, 3, none⟩ = some (.int .i64 (ofL t).z.e) ∧ w16.cell? ⟨gw, 4, none⟩ = some (.string (strOfNums (ofL t).h)) ∧ w16.cell? ⟨gw, 5, none⟩ = some (.string (strOfNums (ofL t).t)) ∧ w16.cell? ⟨gz, 0, none⟩ = some (.int .i64 zb) ∧ w16.cell? ⟨gz, 1, none⟩ = some (.int .i64 zr) ∧ w16.cell? ⟨gz, 2, none⟩ = some (.int .i64 zu) ∧ w16.cell? ⟨gz, 3, none⟩ = some (.int .i64 ze) ∧ w16.cell? ⟨gx, 0, none⟩ = some (.int .i64 xb) ∧ w16.cell? ⟨gx, 1, none⟩ = some (.int .i64 xr) ∧ w16.cell? ⟨gx, 2, none⟩ = some (.int .i64 xu) ∧ w16.cell? ⟨gx, 3, none⟩ = some (.int .i64 xe) ∧ w16.cell? ⟨gy, 0, none⟩ = some (.int .i64 yb) ∧ w16.cell? ⟨gy, 1, none⟩ = some (.int .i64 yr) ∧ w16.cell? ⟨gy, 2, none⟩ = some (.int .i64 yu) ∧ w16.cell? ⟨gy, 3, none⟩ = some (.int .i64 ye) ∧ w16.cell? ⟨gs, 0, none⟩ = some (.int .i64 sb) ∧ w16.cell? ⟨gs, 1, none⟩ = some (.int .i64 sr) ∧ w16.cell? ⟨gs, 2, none⟩ = some (.int .i64 su) ∧ w16.cell? ⟨gs, 3, none⟩ = some (.int .i64 se)) := hide (by
      obtain ⟨w0', w1', w2', w3', w4', w5', z0', z1', z2', z3', x0', x1', x2', x3', y0', y1', y2', y3', s0', s1', s2', s3'⟩ := c
      exact ⟨ke _ _ _ z15.1 w0', ke _ _ _ z15.1 w1', ke _ _ _ z15.1 w2', ke _ _ _ z15.1 w3', ke _ _ _ z15.1 w4', ke _ _ _ z15.1 w5', ke _ _ _ z15.2.1 z0', ke _ _ _ z15.2.1 z1', ke _ _ _ z15.2.1 z2', ke _ _ _ z15.2.1 z3', ke _ _ _ z15.2.2.1 x0', ke _ _ _ z15.2.2.1 x1', ke _ _ _ z15.2.2.1 x2', ke _ _ _ z15.2.2.1 x3', ke _ _ _ z15.2.2.2 y0', ke _ _ _ z15.2.2.2 y1', ke _ _ _ z15.2.2.2 y2', ke _ _ _ z15.2.2.2 y3', ke _ _ _ zcc s0', ke _ _ _ zcc s1', ke _ _ _ zcc s2', ke _ _ _ zcc s3'⟩)
    clear c ke q16
    try dsimp only
    refine unhide hK _ _ (fun _ => unhide HS1) ?_
    clear hK K HS0
    refine anyL_take (i := 10) (v := .bool true) rfl (by kernel_rfl) (by kernel_rfl) (by kernel_rfl) (by kernel_rfl) (fun _ _ _ h => h) (Or.inl ⟨by rfl, ?h10⟩) (unhide HS1) ?_
    case h10 => (intro w hSw; (try dsimp only at hSw); go_simp)
    simp only [Act.put, List.getElem_toArray, List.getElem_cons_zero, List.getElem_cons_succ, List.setIfInBounds_toArray, List.set_cons_zero, List.set_cons_succ]
    refine anyL_take (i := 11) (v := .bool true) rfl (by kernel_rfl) (by kernel_rfl) (by kernel_rfl) (by kernel_rfl) (fun _ _ _ h => h) (Or.inl ⟨by rfl, ?h11⟩) (unhide HS1) ?_
    case h11 => (intro w hSw; (try dsimp only at hSw); go_simp)
    simp only [Act.put, List.getElem_toArray, List.getElem_cons_zero, List.getElem_cons_succ, List.setIfInBounds_toArray, List.set_cons_zero, List.set_cons_succ]
    refine anyL_take (i := 12) (v := ?v12) rfl (by kernel_rfl) (by kernel_rfl) (by kernel_rfl) (by kernel_rfl) (fun _ _ _ h => h) (Or.inl ⟨by rfl, ?h12⟩) (unhide HS1) ?_
    case h12 => (intro w hSw; (try dsimp only at hSw); go_simp) <;> with_reducible rfl
    simp only [Act.put, List.getElem_toArray, List.getElem_cons_zero, List.getElem_cons_succ, List.setIfInBounds_toArray, List.set_cons_zero, List.set_cons_succ]
    refine anyL_take (i := 13) (v := ?v13) rfl (by kernel_rfl) (by kernel_rfl) (by kernel_rfl) (by kernel_rfl) (fun _ _ _ h => h) (Or.inl ⟨by rfl, ?h13⟩) (unhide HS1) ?_
    case h13 => (intro w hSw; (try dsimp only at hSw); go_simp) <;> with_reducible rfl
    simp only [Act.put, List.getElem_toArray, List.getElem_cons_zero, List.getElem_cons_succ, List.setIfInBounds_toArray, List.set_cons_zero, List.set_cons_succ]
    refine anyL_take (i := 14) (v := ?v14) rfl (by kernel_rfl) (by kernel_rfl) (by kernel_rfl) (by kernel_rfl) (fun _ _ _ h => h) (Or.inl ⟨by rfl, ?h14⟩) (unhide HS1) ?_
    case h14 => (intro w hSw; (try dsimp only at hSw); go_simp) <;> with_reducible rfl
    simp only [Act.put, List.getElem_toArray, List.getElem_cons_zero, List.getElem_cons_succ, List.setIfInBounds_toArray, List.set_cons_zero, List.set_cons_succ]
    refine anyL_take (i := 15) (v := .bool true) rfl (by kernel_rfl) (by kernel_rfl) (by kernel_rfl) (by kernel_rfl) (fun _ _ _ h => h) (Or.inl ⟨by rfl, ?h15⟩) (unhide HS1) ?_
    case h15 => (intro w hSw; (try dsimp only at hSw); go_simp)
    simp only [Act.put, List.getElem_toArray, List.getElem_cons_zero, List.getElem_cons_succ, List.setIfInBounds_toArray, List.set_cons_zero, List.set_cons_succ]
    refine anyL_take (i := 16) (v := .bool true) rfl (by kernel_rfl) (by kernel_rfl) (by kernel_rfl) (by kernel_rfl) (fun _ _ _ h => h) (Or.inl ⟨by rfl, ?h16⟩) (unhide HS1) ?_
    case h16 => (intro w hSw; (try dsimp only at hSw); go_simp)
    simp only [Act.put, List.getElem_toArray, List.getElem_cons_zero, List.getElem_cons_succ, List.setIfInBounds_toArray, List.set_cons_zero, List.set_cons_succ]
    refine anyL_take (i := 17) (v := ?v17) rfl (by kernel_rfl) (by kernel_rfl) (by kernel_rfl) (by kernel_rfl) (fun _ _ _ h => h) (Or.inl ⟨by rfl, ?h17⟩) (unhide HS1) ?_
    case h17 => (intro w hSw; (try dsimp only at hSw); go_simp) <;> with_reducible rfl
    simp only [Act.put, List.getElem_toArray, List.getElem_cons_zero, List.getElem_cons_succ, List.setIfInBounds_toArray, List.set_cons_zero, List.set_cons_succ]
    refine anyL_take (i := 18) (v := ?v18) rfl (by kernel_rfl) (by kernel_rfl) (by kernel_rfl) (by kernel_rfl) (fun _ _ _ h => h) (Or.inl ⟨by rfl, ?h18⟩) (unhide HS1) ?_
    case h18 => (intro w hSw; (try dsimp only at hSw); go_simp) <;> with_reducible rfl
    simp only [Act.put, List.getElem_toArray, List.getElem_cons_zero, List.getElem_cons_succ, List.setIfInBounds_toArray, List.set_cons_zero, List.set_cons_succ]
    refine anyL_take (i := 19) (v := ?v19) rfl (by kernel_rfl) (by kernel_rfl) (by kernel_rfl) (by kernel_rfl) (fun _ _ _ h => h) (Or.inl ⟨by rfl, ?h19⟩) (unhide HS1) ?_
    case h19 => (intro w hSw; (try dsimp only at hSw); go_simp) <;> with_reducible rfl
    simp only [Act.put, List.getElem_toArray, List.getElem_cons_zero, List.getElem_cons_succ, List.setIfInBounds_toArray, List.set_cons_zero, List.set_cons_succ]
    refine anyL_take (i := 20) (v := ?v20) rfl (by kernel_rfl) (by kernel_rfl) (by kernel_rfl) (by kernel_rfl) (fun _ _ _ h => h) (Or.inl ⟨by rfl, ?h20⟩) (unhide HS1) ?_
    case h20 => (intro w hSw; (try dsimp only at hSw); go_simp) <;> with_reducible rfl
    simp only [Act.put, List.getElem_toArray, List.getElem_cons_zero, List.getElem_cons_succ, List.setIfInBounds_toArray, List.set_cons_zero, List.set_cons_succ]
    refine anyL_take (i := 21) (v := ?v21) rfl (by kernel_rfl) (by kernel_rfl) (by kernel_rfl) (by kernel_rfl) (fun _ _ _ h => h) (Or.inl ⟨by rfl, ?h21⟩) (unhide HS1) ?_
    case h21 => (intro w hSw; (try dsimp only at hSw); go_simp) <;> with_reducible rfl
    simp only [Act.put, List.getElem_toArray, List.getElem_cons_zero, List.getElem_cons_succ, List.setIfInBounds_toArray, List.set_cons_zero, List.set_cons_succ]
    refine anyL_take (i := 22) (v := ?v22) rfl (by kernel_rfl) (by kernel_rfl) (by kernel_rfl) (by kernel_rfl) (fun _ _ _ h => h) (Or.inl ⟨by rfl, ?h22⟩) (unhide HS1) ?_
    case h22 => (intro w hSw; (try dsimp only at hSw); go_simp) <;> with_reducible rfl
    simp only [Act.put, List.getElem_toArray, List.getElem_cons_zero, List.getElem_cons_succ, List.setIfInBounds_toArray, List.set_cons_zero, List.set_cons_succ]
    refine anyL_take (i := 23) (v := ?v23) rfl (by kernel_rfl) (by kernel_rfl) (by kernel_rfl) (by kernel_rfl) (fun _ _ _ h => h) (Or.inl ⟨by rfl, ?h23⟩) (unhide HS1) ?_
    case h23 => (intro w hSw; (try dsimp only at hSw); go_simp) <;> with_reducible rfl
    simp only [Act.put, List.getElem_toArray, List.getElem_cons_zero, List.getElem_cons_succ, List.setIfInBounds_toArray, List.set_cons_zero, List.set_cons_succ]
    refine anyL_take (i := 24) (v := ?v24) rfl (by kernel_rfl) (by kernel_rfl) (by kernel_rfl) (by kernel_rfl) (fun _ _ _ h => h) (Or.inl ⟨by rfl, ?h24⟩) (unhide HS1) ?_
    case h24 => (intro w hSw; (try dsimp only at hSw); go_simp) <;> with_reducible rfl
    simp only [Act.put, List.getElem_toArray, List.getElem_cons_zero, List.getElem_cons_succ, List.setIfInBounds_toArray, List.set_cons_zero, List.set_cons_succ]
    refine anyL_take (i := 25) (v := ?v25) rfl (by kernel_rfl) (by kernel_rfl) (by kernel_rfl) (by kernel_rfl) (fun _ _ _ h => h) (Or.inl ⟨by rfl, ?h25⟩) (unhide HS1) ?_
    case h25 => (intro w hSw; (try dsimp only at hSw); go_simp) <;> with_reducible rfl
    simp only [Act.put, List.getElem_toArray, List.getElem_cons_zero, List.getElem_cons_succ, List.setIfInBounds_toArray, List.set_cons_zero, List.set_cons_succ]
    refine anyL_take (i := 26) (v := ?v26) rfl (by kernel_rfl) (by kernel_rfl) (by kernel_rfl) (by kernel_rfl) (fun _ _ _ h => h) (Or.inl ⟨by rfl, ?h26⟩) (unhide HS1) ?_
    case h26 => (intro w hSw; (try dsimp only at hSw); go_simp) <;> with_reducible rfl
    simp only [Act.put, List.getElem_toArray, List.getElem_cons_zero, List.getElem_cons_succ, List.setIfInBounds_toArray, List.set_cons_zero, List.set_cons_succ]
    refine anyL_take (i := 27) (v := ?v27) rfl (by kernel_rfl) (by kernel_rfl) (by kernel_rfl) (by kernel_rfl) (fun _ _ _ h => h) (Or.inl ⟨by rfl, ?h27⟩) (unhide HS1) ?_
    case h27 => (intro w hSw; (try dsimp only at hSw); go_simp) <;> with_reducible rfl
    simp only [Act.put, List.getElem_toArray, List.getElem_cons_zero, List.getElem_cons_succ, List.setIfInBounds_toArray, List.set_cons_zero, List.set_cons_succ]
    refine anyL_take (i := 28) (v := .bool true) rfl (by kernel_rfl) (by kernel_rfl) (by kernel_rfl) (by kernel_rfl) (fun _ _ _ h => h) (Or.inl ⟨by rfl, ?h28⟩) (unhide HS1) ?_
    case h28 => (intro w hSw; (try dsimp only at hSw); go_simp)
    simp only [Act.put, List.getElem_toArray, List.getElem_cons_zero, List.getElem_cons_succ, List.setIfInBounds_toArray, List.set_cons_zero, List.set_cons_succ]
    refine anyL_take (i := 29) (v := .bool true) rfl (by kernel_rfl) (by kernel_rfl) (by kernel_rfl) (by kernel_rfl) (fun _ _ _ h => h) (Or.inl ⟨by rfl, ?h29⟩) (unhide HS1) ?_
    case h29 => (intro w hSw; (try dsimp only at hSw); go_simp)
    simp only [Act.put, List.getElem_toArray, List.getElem_cons_zero, List.getElem_cons_succ, List.setIfInBounds_toArray, List.set_cons_zero, List.set_cons_succ]
    refine anyL_take (i := 30) (v := ?v30) rfl (by kernel_rfl) (by kernel_rfl) (by kernel_rfl) (by kernel_rfl) (fun _ _ _ h => h) (Or.inl ⟨by rfl, ?h30⟩) (unhide HS1) ?_
    case h30 => (intro w hSw; (try dsimp only at hSw); go_simp) <;> with_reducible rfl
    simp only [Act.put, List.getElem_toArray, List.getElem_cons_zero, List.getElem_cons_succ, List.setIfInBounds_toArray, List.set_cons_zero, List.set_cons_succ]
    refine anyL_take (i := 31) (v := ?v31) rfl (by kernel_rfl) (by kernel_rfl) (by kernel_rfl) (by kernel_rfl) (fun _ _ _ h => h) (Or.inl ⟨by rfl, ?h31⟩) (unhide HS1) ?_
    case h31 => (intro w hSw; (try dsimp only at hSw); go_simp) <;> with_reducible rfl
    simp only [Act.put, List.getElem_toArray, List.getElem_cons_zero, List.getElem_cons_succ, List.setIfInBounds_toArray, List.set_cons_zero, List.set_cons_succ]
    refine anyL_take (i := 32) (v := ?v32) rfl (by kernel_rfl) (by kernel_rfl) (by kernel_rfl) (by kernel_rfl) (fun _ _ _ h => h) (Or.inl ⟨by rfl, ?h32⟩) (unhide HS1) ?_
    case h32 => (intro w hSw; (try dsimp only at hSw); go_simp) <;> with_reducible rfl
    simp only [Act.put, List.getElem_toArray, List.getElem_cons_zero, List.getElem_cons_succ, List.setIfInBounds_toArray, List.set_cons_zero, List.set_cons_succ]
    refine anyL_take (i := 33) (v := ?v33) rfl (by kernel_rfl) (by kernel_rfl) (by kernel_rfl) (by kernel_rfl) (fun _ _ _ h => h) (Or.inl ⟨by rfl, ?h33⟩) (unhide HS1) ?_
    case h33 => (intro w hSw; (try dsimp only at hSw); go_simp) <;> with_reducible rfl
    simp only [Act.put, List.getElem_toArray, List.getElem_cons_zero, List.getElem_cons_succ, List.setIfInBounds_toArray, List.set_cons_zero, List.set_cons_succ]
    refine anyL_take (i := 34) (v := ?v34) rfl (by kernel_rfl) (by kernel_rfl) (by kernel_rfl) (by kernel_rfl) (fun _ _ _ h => h) (Or.inl ⟨by rfl, ?h34⟩) (unhide HS1) ?_
    case h34 => (intro w hSw; (try dsimp only at hSw); go_simp) <;> with_reducible rfl
    simp only [Act.put, List.getElem_toArray, List.getElem_cons_zero, List.getElem_cons_succ, List.setIfInBounds_toArray, List.set_cons_zero, List.set_cons_succ]
    refine anyL_take (i := 35) (v := ?v35) rfl (by kernel_rfl) (by kernel_rfl) (by kernel_rfl) (by kernel_rfl) (fun _ _ _ h => h) (Or.inl ⟨by rfl, ?h35⟩) (unhide HS1) ?_
    case h35 => (intro w hSw; (try dsimp only at hSw); go_simp) <;> with_reducible rfl
    simp only [Act.put, List.getElem_toArray, List.getElem_cons_zero, List.getElem_cons_succ, List.setIfInBounds_toArray, List.set_cons_zero, List.set_cons_succ]
    refine anyL_take (i := 36) (v := ?v36) rfl (by kernel_rfl) (by kernel_rfl) (by kernel_rfl) (by kernel_rfl) (fun _ _ _ h => h) (Or.inl ⟨by rfl, ?h36⟩) (unhide HS1) ?_
    case h36 => (intro w hSw; (try dsimp only at hSw); go_simp) <;> with_reducible rfl
    simp only [Act.put, List.getElem_toArray, List.getElem_cons_zero, List.getElem_cons_succ, List.setIfInBounds_toArray, List.set_cons_zero, List.set_cons_succ]
    refine anyL_take (i := 37) (v := ?v37) rfl (by kernel_rfl) (by kernel_rfl) (by kernel_rfl) (by kernel_rfl) (fun _ _ _ h => h) (Or.inl ⟨by rfl, ?h37⟩) (unhide HS1) ?_
    case h37 => (intro w hSw; (try dsimp only at hSw); go_simp) <;> with_reducible rfl
    simp only [Act.put, List.getElem_toArray, List.getElem_cons_zero, List.getElem_cons_succ, List.setIfInBounds_toArray, List.set_cons_zero, List.set_cons_succ]
    refine anyL_take (i := 38) (v := ?v38) rfl (by kernel_rfl) (by kernel_rfl) (by kernel_rfl) (by kernel_rfl) (fun _ _ _ h => h) (Or.inl ⟨by rfl, ?h38⟩) (unhide HS1) ?_
    case h38 => (intro w hSw; (try dsimp only at hSw); go_simp) <;> with_reducible rfl
    simp only [Act.put, List.getElem_toArray, List.getElem_cons_zero, List.getElem_cons_succ, List.setIfInBounds_toArray, List.set_cons_zero, List.set_cons_succ]
    refine anyL_take (i := 39) (v := ?v39) rfl (by kernel_rfl) (by kernel_rfl) (by kernel_rfl) (by kernel_rfl) (fun _ _ _ h => h) (Or.inl ⟨by rfl, ?h39⟩) (unhide HS1) ?_
    case h39 => (intro w hSw; (try dsimp only at hSw); go_simp) <;> with_reducible rfl
    simp only [Act.put, List.getElem_toArray, List.getElem_cons_zero, List.getElem_cons_succ, List.setIfInBounds_toArray, List.set_cons_zero, List.set_cons_succ]
    refine anyL_take (i := 40) (v := ?v40) rfl (by kernel_rfl) (by kernel_rfl) (by kernel_rfl) (by kernel_rfl) (fun _ _ _ h => h) (Or.inl ⟨by rfl, ?h40⟩) (unhide HS1) ?_
    case h40 => (intro w hSw; (try dsimp only at hSw); go_simp) <;> with_reducible rfl
    simp only [Act.put, List.getElem_toArray, List.getElem_cons_zero, List.getElem_cons_succ, List.setIfInBounds_toArray, List.set_cons_zero, List.set_cons_succ]
    refine anyL_take (i := 41) (v := .bool true) rfl (by kernel_rfl) (by kernel_rfl) (by kernel_rfl) (by kernel_rfl) (fun _ _ _ h => h) (Or.inl ⟨by rfl, ?h41⟩) (unhide HS1) ?_
    case h41 => (intro w hSw; (try dsimp only at hSw); go_simp)
    simp only [Act.put, List.getElem_toArray, List.getElem_cons_zero, List.getElem_cons_succ, List.setIfInBounds_toArray, List.set_cons_zero, List.set_cons_succ]
    refine anyL_take (i := 42) (v := .bool true) rfl (by kernel_rfl) (by kernel_rfl) (by kernel_rfl) (by kernel_rfl) (fun _ _ _ h => h) (Or.inl ⟨by rfl, ?h42⟩) (unhide HS1) ?_
    case h42 => (intro w hSw; (try dsimp only at hSw); go_simp)
    simp only [Act.put, List.getElem_toArray, List.getElem_cons_zero, List.getElem_cons_succ, List.setIfInBounds_toArray, List.set_cons_zero, List.set_cons_succ]
    refine anyL_take (i := 43) (v := ?v43) rfl (by kernel_rfl) (by kernel_rfl) (by kernel_rfl) (by kernel_rfl) (fun _ _ _ h => h) (Or.inl ⟨by rfl, ?h43⟩) (unhide HS1) ?_
    case h43 => (intro w hSw; (try dsimp only at hSw); go_simp) <;> with_reducible rfl
    simp only [Act.put, List.getElem_toArray, List.getElem_cons_zero, List.getElem_cons_succ, List.setIfInBounds_toArray, List.set_cons_zero, List.set_cons_succ]
    refine anyL_take (i := 44) (v := ?v44) rfl (by kernel_rfl) (by kernel_rfl) (by kernel_rfl) (by kernel_rfl) (fun _ _ _ h => h) (Or.inl ⟨by rfl, ?h44⟩) (unhide HS1) ?_
    case h44 => (intro w hSw; (try dsimp only at hSw); go_simp) <;> with_reducible rfl
    simp only [Act.put, List.getElem_toArray, List.getElem_cons_zero, List.getElem_cons_succ, List.setIfInBounds_toArray, List.set_cons_zero, List.set_cons_succ]
    refine anyL_take (i := 45) (v := ?v45) rfl (by kernel_rfl) (by kernel_rfl) (by kernel_rfl) (by kernel_rfl) (fun _ _ _ h => h) (Or.inl ⟨by rfl, ?h45⟩) (unhide HS1) ?_
    case h45 => (intro w hSw; (try dsimp only at hSw); go_simp) <;> with_reducible rfl
    simp only [Act.put, List.getElem_toArray, List.getElem_cons_zero, List.getElem_cons_succ, List.setIfInBounds_toArray, List.set_cons_zero, List.set_cons_succ]
    refine anyL_take (i := 46) (v := ?v46) rfl (by kernel_rfl) (by kernel_rfl) (by kernel_rfl) (by kernel_rfl) (fun _ _ _ h => h) (Or.inl ⟨by rfl, ?h46⟩) (unhide HS1) ?_
    case h46 => (intro w hSw; (try dsimp only at hSw); go_simp) <;> with_reducible rfl
    simp only [Act.put, List.getElem_toArray, List.getElem_cons_zero, List.getElem_cons_succ, List.setIfInBounds_toArray, List.set_cons_zero, List.set_cons_succ]
    refine anyL_take (i := 47) (v := ?v47) rfl (by kernel_rfl) (by kernel_rfl) (by kernel_rfl) (by kernel_rfl) (fun _ _ _ h => h) (Or.inl ⟨by rfl, ?h47⟩) (unhide HS1) ?_
    case h47 => (intro w hSw; (try dsimp only at hSw); go_simp) <;> with_reducible rfl
    simp only [Act.put, List.getElem_toArray, List.getElem_cons_zero, List.getElem_cons_succ, List.setIfInBounds_toArray, List.set_cons_zero, List.set_cons_succ]
    refine anyL_take (i := 48) (v := ?v48) rfl (by kernel_rfl) (by kernel_rfl) (by kernel_rfl) (by kernel_rfl) (fun _ _ _ h => h) (Or.inl ⟨by rfl, ?h48⟩) (unhide HS1) ?_
    case h48 => (intro w hSw; (try dsimp only at hSw); go_simp) <;> with_reducible rfl
    simp only [Act.put, List.getElem_toArray, List.getElem_cons_zero, List.getElem_cons_succ, List.setIfInBounds_toArray, List.set_cons_zero, List.set_cons_succ]
    refine anyL_take (i := 49) (v := ?v49) rfl (by kernel_rfl) (by kernel_rfl) (by kernel_rfl) (by kernel_rfl) (fun _ _ _ h => h) (Or.inl ⟨by rfl, ?h49⟩) (unhide HS1) ?_
    case h49 => (intro w hSw; (try dsimp only at hSw); go_simp) <;> with_reducible rfl
    simp only [Act.put, List.getElem_toArray, List.getElem_cons_zero, List.getElem_cons_succ, List.setIfInBounds_toArray, List.set_cons_zero, List.set_cons_succ]
    refine anyL_take (i := 50) (v := ?v50) rfl (by kernel_rfl) (by kernel_rfl) (by kernel_rfl) (by kernel_rfl) (fun _ _ _ h => h) (Or.inl ⟨by rfl, ?h50⟩) (unhide HS1) ?_
    case h50 => (intro w hSw; (try dsimp only at hSw); go_simp) <;> with_reducible rfl
    simp only [Act.put, List.getElem_toArray, List.getElem_cons_zero, List.getElem_cons_succ, List.setIfInBounds_toArray, List.set_cons_zero, List.set_cons_succ]
    refine anyL_take (i := 51) (v := ?v51) rfl (by kernel_rfl) (by kernel_rfl) (by kernel_rfl) (by kernel_rfl) (fun _ _ _ h => h) (Or.inl ⟨by rfl, ?h51⟩) (unhide HS1) ?_
    case h51 => (intro w hSw; (try dsimp only at hSw); go_simp) <;> with_reducible rfl
    simp only [Act.put, List.getElem_toArray, List.getElem_cons_zero, List.getElem_cons_succ, List.setIfInBounds_toArray, List.set_cons_zero, List.set_cons_succ]
    refine anyL_take (i := 52) (v := ?v52) rfl (by kernel_rfl) (by kernel_rfl) (by kernel_rfl) (by kernel_rfl) (fun _ _ _ h => h) (Or.inl ⟨by rfl, ?h52⟩) (unhide HS1) ?_
    case h52 => (intro w hSw; (try dsimp only at hSw); go_simp) <;> with_reducible rfl
    simp only [Act.put, List.getElem_toArray, List.getElem_cons_zero, List.getElem_cons_succ, List.setIfInBounds_toArray, List.set_cons_zero, List.set_cons_succ]
    refine anyL_take (i := 53) (v := ?v53) rfl (by kernel_rfl) (by kernel_rfl) (by kernel_rfl) (by kernel_rfl) (fun _ _ _ h => h) (Or.inl ⟨by rfl, ?h53⟩) (unhide HS1) ?_
    case h53 => (intro w hSw; (try dsimp only at hSw); go_simp) <;> with_reducible rfl
    simp only [Act.put, List.getElem_toArray, List.getElem_cons_zero, List.getElem_cons_succ, List.setIfInBounds_toArray, List.set_cons_zero, List.set_cons_succ]
    refine anyL_take (i := 54) (v := .bool true) rfl (by kernel_rfl) (by kernel_rfl) (by kernel_rfl) (by kernel_rfl) (fun _ _ _ h => h) (Or.inl ⟨by rfl, ?h54⟩) (unhide HS1) ?_
    case h54 => (intro w hSw; (try dsimp only at hSw); go_simp)
    simp only [Act.put, List.getElem_toArray, List.getElem_cons_zero, List.getElem_cons_succ, List.setIfInBounds_toArray, List.set_cons_zero, List.set_cons_succ]
    refine anyL_take (i := 55) (v := .bool true) rfl (by kernel_rfl) (by kernel_rfl) (by kernel_rfl) (by kernel_rfl) (fun _ _ _ h => h) (Or.inl ⟨by rfl, ?h55⟩) (unhide HS1) ?_
    case h55 => (intro w hSw; (try dsimp only at hSw); go_simp)
    simp only [Act.put, List.getElem_toArray, List.getElem_cons_zero, List.getElem_cons_succ, List.setIfInBounds_toArray, List.set_cons_zero, List.set_cons_succ]
    refine anyL_take (i := 56) (v := ?v56) rfl (by kernel_rfl) (by kernel_rfl) (by kernel_rfl) (by kernel_rfl) (fun _ _ _ h => h) (Or.inl ⟨by rfl, ?h56⟩) (unhide HS1) ?_
    case h56 => (intro w hSw; (try dsimp only at hSw); go_simp) <;> with_reducible rfl
    simp only [Act.put, List.getElem_toArray, List.getElem_cons_zero, List.getElem_cons_succ, List.setIfInBounds_toArray, List.set_cons_zero, List.set_cons_succ]
    refine anyL_done (by kernel_rfl) ?_ _
    go_wp2_with fail
    go_ret
    exact ⟨rfl, b16⟩
end Go.Proofs.YtniafnilgohgdaaDoor
