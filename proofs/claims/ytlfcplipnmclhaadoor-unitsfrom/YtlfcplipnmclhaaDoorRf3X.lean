/- Layer 3: the document's answer: ToExact. -/
import Derived.Test.YtlfcplipnmclhaaDoorRf3
namespace Go.Proofs.YtlfcplipnmclhaaDoor
open Go.ChangeShapes Go.WideShapes Go.ChangeAt Go.RowKit

set_option maxHeartbeats 1000000 in
theorem RToExact_at (a0 : Option Addr) (cap : Nat) (l : List Int) (w : World) (hB : IsB w a0 cap l) (hl : l.length ≤ 1048576) :
    Calls Tryd.prog 20 #[.slice a0 l.length cap] w fun e w' => ∃ v, e = .returned v ∧ OwnU w' w.heap.size v (exL l) ∧ Below w.heap.size w w' := by
  have hsl := spots_le l
  have HLB := hide hB.2.2.2
  go_enter Tryd.func20, Tryd.ntmps20
  go_wp2_with fail
  refine (Steps_at a0 cap l w hB hl).mono ?_
  rintro e w1 ⟨aw, cw, rfl, kw, jw, x1⟩
  generalize hn : (spots l 0).length = n at *
  have HN := hide hn
  clear hn
  have s1 := x1.size
  go_wp2_with fail
  go_loopw [3, 5, 6] (fun v a i wx => ∃ (pre : List Nat) (p : Nat), i = .int .i64 pre.length ∧ a = .int .i64 p ∧ p ≤ l.length ∧ Hid (spots l 0 = pre ++ spots l p) ∧ Hid (OwnU wx w1.heap.size v (exP l pre)) ∧ Below w1.heap.size w1 wx) (fun _ a _ _ => l.length - (intOf a).toNat)
  case atStart => exact ⟨[], 0, rfl, rfl, Nat.zero_le _, hide rfl, hide (World.ownsRow_nil _ _ _ _), Below.refl _ _⟩
  case round =>
    obtain ⟨pre, p, rfl, rfl, hpl, hsp, ho, hb⟩ := hrel
    by_cases hp : p < l.length
    · obtain ⟨hkn, hg⟩ := spots_get (unhide hsp) hp
      have hkl := hkn
      rw [unhide HN] at hkn
      have hbw := x1.trans (hb.mono s1)
      obtain ⟨gb, off, rfl, hL0, hgb0⟩ := hB.2.2.1.lies (by omega)
      have hL := hL0.below hbw hgb0
      have hgb : gb < w1.heap.size := Nat.lt_of_lt_of_le hgb0 s1
      clear hL0 hbw
      obtain ⟨cb, y0, y1⟩ := hL p hp
      obtain ⟨g, rfl, hgl, c0, c1, c2⟩ : ∃ g, aw = some ⟨g, 0, none⟩ ∧ g < w1.heap.size ∧ wr.cell? ⟨g, pre.length * 3, none⟩ = some (.int .i32 (first (l.drop p)).1) ∧ wr.cell? ⟨g, pre.length * 3 + 1, none⟩ = some (.int .i64 (wid (l.drop p))) ∧ wr.cell? ⟨g, pre.length * 3 + 2, none⟩ = some (.bool (whl (l.drop p))) := by
        rcases jw with h | ⟨g, h1, h2, h3⟩
        · rw [h] at hkl; simp at hkl
        · have := h3 pre.length hkl
          rw [hg] at this
          exact ⟨g, h1, h2, (hb.cell (p := ⟨g, pre.length * 3, none⟩) h2).trans this.1, (hb.cell (p := ⟨g, pre.length * 3 + 1, none⟩) h2).trans this.2.1, (hb.cell (p := ⟨g, pre.length * 3 + 2, none⟩) h2).trans this.2.2⟩
      have HRU := hide (rune_step (unhide HLB) hp)
      have HF : Hid (exP l (pre ++ [p]) = exP l pre ++ if whl (l.drop p) then uni (first (l.drop p)).1 else [56320 + l.getD p 0]) := hide (by rw [exP_snoc, stpU])
      have hfl := exP_len l pre
      have HSC := hide (spots_cons hp)
      have hwl := wid_len hp
      have hwp := wid_pos hp
      have hsz := hb.size
      have hw1 : IntKind.u16.wrap (l.getD p 0) = l.getD p 0 := by rw [IntKind.wrap_u16]; omega
      have hw2 : IntKind.u16.wrap (56320 + l.getD p 0) = 56320 + l.getD p 0 := by rw [IntKind.wrap_u16]; omega
      have HOD : Hid (OwnU wr.drew w1.heap.size _ (exP l pre)) := ho
      generalize hpre : pre.length = k at *
      have HPRE := hide hpre
      clear hpre hg hL hkl ho
      generalize hwd : wid (l.drop p) = wd at *
      generalize (first (l.drop p)).1 = r at *
      generalize whl (l.drop p) = wh at *
      generalize l.getD p 0 = y at *
      have HS0 : Hid (wr.drew.cell? ⟨g, k * 3, none⟩ = some (.int .i32 r) ∧ wr.drew.cell? ⟨g, k * 3 + 1, none⟩ = some (.int .i64 wd) ∧ wr.drew.cell? ⟨g, k * 3 + 2, none⟩ = some (.bool wh) ∧ wr.drew.cell? ⟨gb, off + p, none⟩ = some (.int .u8 y)) := hide ⟨c0, c1, c2, cb⟩
      have hszd : w1.heap.size ≤ wr.drew.heap.size := hsz
      have hbd : Below w1.heap.size w1 wr.drew := hb.drew
      go_upto_region 7 with fail
      go_region_held_law (fun w' => w'.cell? ⟨g, k * 3, none⟩ = some (.int .i32 r) ∧ w'.cell? ⟨g, k * 3 + 1, none⟩ = some (.int .i64 wd) ∧ w'.cell? ⟨g, k * 3 + 2, none⟩ = some (.bool wh) ∧ w'.cell? ⟨gb, off + p, none⟩ = some (.int .u8 y)) (first | exact unhide HS0 | exact unhide HS5)
        (first
          | (go_at_call 36; refine (add_at w1.heap.size _ _ r wd wh (56320 + y) wr.drew (unhide HOD) (unhide HRU) (by omega) hszd).mono ?_; rintro e w5 ⟨v5, rfl, o5, b5⟩
             have HS5 : Hid (w5.cell? ⟨g, k * 3, none⟩ = some (.int .i32 r) ∧ w5.cell? ⟨g, k * 3 + 1, none⟩ = some (.int .i64 wd) ∧ w5.cell? ⟨g, k * 3 + 2, none⟩ = some (.bool wh) ∧ w5.cell? ⟨gb, off + p, none⟩ = some (.int .u8 y)) := hide ⟨(b5.cell (p := ⟨g, k * 3, none⟩) hgl).trans (unhide HS0).1, (b5.cell (p := ⟨g, k * 3 + 1, none⟩) hgl).trans (unhide HS0).2.1, (b5.cell (p := ⟨g, k * 3 + 2, none⟩) hgl).trans (unhide HS0).2.2.1, (b5.cell (p := ⟨gb, off + p, none⟩) hgb).trans (unhide HS0).2.2.2⟩))
      have d1 := (unhide HS5).2.1
      go_wp2_with fail
      go_roundw
      case rel =>
        refine ⟨pre ++ [p], p + wd, ?_, by go_num, by omega, ?_, by rw [unhide HF]; exact hide o5, hbd.trans b5⟩
        · rw [List.length_append, unhide HPRE]; go_num
        · refine hide ?_
          rw [unhide hsp, unhide HSC]
          simp
      case measure => simp [intOf]; omega
    · have hfull := spots_full (unhide hsp) hp
      rw [unhide HN] at hfull
      have ho' := unhide ho
      have e : pre = spots l 0 := by rw [unhide hsp, spots_end hp]; simp
      rw [e] at ho'
      clear ho e
      go_wp2
      go_ret
      exact ⟨_, rfl, OwnU.mono ho' s1, x1.trans (hb.mono s1)⟩

end Go.Proofs.YtlfcplipnmclhaaDoor
