/- The walk of OctetWithin: it answers true wherever the table holds the classes, and changes nothing that was there. -/
import Derived.Test.YtgebpboimecdhaaDoorNew
namespace Go.Proofs.YtgebpboimecdhaaDoor
open Go.ChangeShapes Go.WideShapes Go.ChangeAt Go.RowKit

theorem enc_len (r : Int) : 1 ≤ (enc r).length ∧ (enc r).length ≤ 4 := enc_cases r (p := fun l => 1 ≤ l.length ∧ l.length ≤ 4) (by simp) (by simp) (by simp) (by simp) (by simp)

theorem Lies.part {w : World} {g off : Nat} {l : List Int} (h : Lies w g off l) (i n : Nat) (hn : i + n ≤ l.length) : Lies w g (off + i) ((l.drop i).take n) := by
  intro j hj
  simp only [List.length_take, List.length_drop] at hj
  have := h (i + j) (by omega)
  have e : ((l.drop i).take n).getD j 0 = l.getD (i + j) 0 := by
    simp [List.getD, show j < n by omega]
  rw [e, Nat.add_assoc]
  exact this

set_option maxHeartbeats 1000000 in
theorem OctetWithin_any (r s : Int) (w : World) (wr : (Lit.int .i32 r).wf = true) (ws : (Lit.int .i32 s).wf = true) (hT : Tab w) :
    Calls Tryd.prog 8 #[.int .i32 r, .int .i32 s] w fun e w' => e = .returned (.bool true) ∧ Below w.heap.size w w' := by
  obtain ⟨h0, h1⟩ := bounds_i32 wr
  obtain ⟨k0, k1⟩ := bounds_i32 ws
  have HB := hide (fun W => Bytes_new r W h0 h1)
  have HC := hide (fun W => Bytes_new s W k0 k1)
  obtain ⟨la0, la1⟩ := enc_len r
  obtain ⟨lb0, lb1⟩ := enc_len s
  have ba := enc_bytes r
  have bb := enc_bytes s
  have Hin := hide (fun i => whole_within (whole_enc r) (whole_enc s) i)
  generalize enc r = la at *
  generalize enc s = lb at *
  have Heq := hide (str_beq ba bb)
  have BA := hide ba
  have BB := hide bb
  clear ba bb wr ws h0 h1 k0 k1
  go_enter Tryd.func8, Tryd.ntmps8
  go_wp2_with (go_at_call 9; refine (awake_any _ hT).mono ?_; rintro e w1 ⟨rfl, b1⟩)
  refine (unhide HB w1).mono ?_
  rintro e w2 ⟨ga, rfl, fa, sa, ta, b2⟩
  go_wp2_with fail
  refine (unhide HC w2).mono ?_
  rintro e w3 ⟨gb, rfl, fb, sb, tb, b3⟩
  have fa3 := fa.below b3 ta
  have ka := str_lies w3 ga 0 la.length la fa3
  have kb := str_lies w3 gb 0 lb.length lb fb
  have s1 := b1.size; have s2 := b2.size
  have hb3 := b1.trans ((b2.mono (by omega)).trans (b3.mono (by omega)))
  have ta3 := Nat.lt_of_lt_of_le ta b3.size
  have s3 := hb3.size
  clear b1 b2 b3 fa HB HC hT sa ta sb s1 s2
  by_cases heq : la = lb
  · have ht : ((strOfNums la).toList == (strOfNums lb).toList) = true := by rw [unhide Heq]; exact decide_eq_true heq
    clear heq
    go_wp2_with fail
    go_ret
    exact ⟨rfl, hb3⟩
  · have ht : ((strOfNums la).toList == (strOfNums lb).toList) = false := by rw [unhide Heq]; exact decide_eq_false heq
    have Hne := hide heq
    clear heq
    go_wp2_with fail
    go_loopw [7] (fun i wx => ∃ k : Nat, k ≤ 4 ∧ i = .int .i64 k ∧ Below w3.heap.size w3 wx) (fun i _ => 5 - (intOf i).toNat)
    case atStart => exact ⟨0, by omega, rfl, Below.refl _ _⟩
    case round =>
      obtain ⟨k, hk, rfl, hbx⟩ := hrel
      have fax := fa3.below hbx ta3
      have fbx := fb.below hbx tb
      by_cases hlt : k + la.length ≤ lb.length
      · have i1 : (k : Int) ≤ (k : Int) + (la.length : Int) := by omega
        have i2 : (k : Int) + (la.length : Int) ≤ (lb.length : Int) := by omega
        have i3 : IntKind.i64.wrap ((k : Int) + (la.length : Int)) = (k : Int) + (la.length : Int) := by rw [IntKind.wrap_i64]; omega
        have i4 : ((k : Int) + (la.length : Int)).toNat = k + la.length := by omega
        have i5 : ¬ lb.length = k := by omega
        have hpl : ((lb.drop k).take la.length).length = la.length := by simp; omega
        have hpart := Lies.part fbx k la.length hlt
        rw [Nat.zero_add] at hpart
        have kp : ∀ m, (convert 27 9 (.slice (some ⟨gb, k, none⟩) la.length (lb.length - k))).run Tryd.prog (wr.drewN m) = .ok (.string (strOfNums ((lb.drop k).take la.length))) (wr.drewN m) := by
          intro m
          have := str_lies (wr.drewN m) gb k (lb.length - k) ((lb.drop k).take la.length) hpart
          rw [hpl] at this
          exact this
        have kq : ∀ m, (convert 27 9 (.slice (some ⟨ga, 0, none⟩) la.length la.length)).run Tryd.prog (wr.drewN m) = .ok (.string (strOfNums la)) (wr.drewN m) :=
          fun m => str_lies (wr.drewN m) ga 0 la.length la fax
        have hpb : ∀ x ∈ (lb.drop k).take la.length, 0 ≤ x ∧ x ≤ 255 := fun x hx => unhide BB x (List.mem_of_mem_drop (List.mem_of_mem_take hx))
        have he : ((strOfNums ((lb.drop k).take la.length)).toList == (strOfNums la).toList) = false := by
          rw [str_beq hpb (unhide BA)]
          exact decide_eq_false fun e => unhide Hne (unhide Hin k e)
        generalize (lb.drop k).take la.length = lp at kp he
        clear hpl hpart hpb
        go_wp2_with fail
        go_quiet (fail)
        go_wp2_with fail
        go_roundw
        case rel => exact ⟨k + 1, by omega, by go_num, Below.drewN hbx _⟩
        case measure => simp [intOf]; omega
      · go_wp2_with fail
        go_ret
        exact ⟨rfl, hb3.trans (hbx.mono s3)⟩

end Go.Proofs.YtgebpboimecdhaaDoor
