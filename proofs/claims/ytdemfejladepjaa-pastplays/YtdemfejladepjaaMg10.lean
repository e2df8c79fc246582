/- Layer 17: the calls of a past of states string. Written by wip/tools/pas.py. -/
import Derived.Test.YtdemfejladepjaaMg09

namespace Go.Proofs.Ytdemfejladepjaa
open Go.ChangeShapes Go.WideShapes Go.ChangeAt Go.RowKit
attribute [local go_sem] Oper.semAt_some

theorem stateS {X : World} {g : Nat} {p : Pa ByteArray} {kb ka ko : Option Nat} (h : IspS X g p kb ka ko) (s : ByteArray) : IspS (X.setCell ⟨g, 0, none⟩ (.string s)) g { p with s := s } kb ka ko ∧ Gr (FO g kb ka ko) X (FO g kb ka ko) (X.setCell ⟨g, 0, none⟩ (.string s)) := by
  obtain ⟨vb, va, vo, h1, h2, h3, h4⟩ := h.c
  have hd := h.d
  have kk : KpF (fun i => i = g) X (X.setCell ⟨g, 0, none⟩ (.string s)) := KpF.set (F := fun i => i = g) X ⟨g, 0, none⟩ (.string s) rfl
  have hC : Cls (X.setCell ⟨g, 0, none⟩ (.string s)) g 65 #[.string s, .int .i64 p.m, vb, va, vo] := by simpa using h1.set 0 (.string s)
  exact ⟨⟨⟨vb, va, vo, hC, h2.kpf kk (fun i e e1 => hd.gb (e1 ▸ e)), h3.kpf kk (fun i e e1 => hd.ga (e1 ▸ e)), h4.kpf kk (fun i e e1 => hd.go (e1 ▸ e))⟩, hd⟩, ⟨kk.mono (fun i _ e => .inl e), fun _ e => .inl e⟩⟩
set_option maxRecDepth 100000 in
set_option maxHeartbeats 4000000 in
theorem takeU0S_at (X : World) (g : Nat) (p : Pa ByteArray) (kb ka ko : Option Nat) (h : IspS X g p kb ka ko) (hp : p.b = []) :
    Calls Try.prog 27 #[.pointer (some ⟨g, 0, none⟩), .pointer (some ⟨g, 2, none⟩), .pointer (some ⟨g, 3, none⟩)] X fun y Y => y = .returned (.tuple #[.string ⟨#[]⟩, .string ⟨#[]⟩, .int .i64 170]) ∧ Y = X := by
  obtain ⟨vb, va, vo, h1, h2, h3, h4⟩ := h.c
  have hv : ∃ a c, vb = .slice a 0 c := by
    rcases (h2).val with ⟨e, _, _⟩ | ⟨g1, o1, c1, e, _⟩
    · exact ⟨_, _, e⟩
    · rw [e, hp]; exact ⟨_, _, rfl⟩
  obtain ⟨qa, qc, rfl⟩ := hv
  have b0 : X.cell? ⟨g, 2, none⟩ = some (.slice qa 0 qc) := (h1.cell 2).trans rfl
  have w1 : wrap64 (-1) = -1 := by unfold wrap64; omega
  have w2 : wrap64 ((0 : Int) - 1) = -1 := by unfold wrap64; omega
  clear h h1 h2 h3 h4 hp
  go_enter Try.func27, Try.ntmps27
  go_wp2_with fail
  exact bodyPost_ret (results_tmp3 rfl _ _ _) rfl ⟨rfl, rfl⟩
set_option maxRecDepth 100000 in
set_option maxHeartbeats 4000000 in
theorem takeUS_at (X : World) (g : Nat) (p : Pa ByteArray) (kb ka ko : Option Nat) (h : IspS X g p kb ka ko) (Q : List (ByteArray × ByteArray)) (s : ByteArray) (w : ByteArray) (hp : p.b = Q ++ [(s, w)]) (hn : p.a.length ≤ 4096) (hq : Q.length ≤ 4096) :
    Calls Try.prog 27 #[.pointer (some ⟨g, 0, none⟩), .pointer (some ⟨g, 2, none⟩), .pointer (some ⟨g, 3, none⟩)] X fun y Y => y = .returned (.tuple #[.string s, .string w, .int .i64 0]) ∧ ∃ k', IspS Y g { p with s := s, b := Q, a := p.a ++ [(p.s, w)] } kb k' ko ∧ Gr (FO g kb ka ko) X (FO g kb k' ko) Y := by
  obtain ⟨N, hN⟩ : ∃ N, Q.length = N := ⟨_, rfl⟩
  rw [hN] at hq
  obtain ⟨vb, va, vo, gb, of, cap, hk, h1, e1, hc, hcs, hfs, hne, hfr⟩ := frontBS X g p kb ka ko h Q s w hp N hN
  subst e1
  have b0 : X.cell? ⟨g, 2, none⟩ = some (.slice (some ⟨gb, of, none⟩) (N + 1) cap) := (h1.cell 2).trans rfl
  have w1 : wrap64 (((N : Int) + 1) - 1) = N := by unfold wrap64; omega
  have w2 : wrap64 (N : Int) = N := by unfold wrap64; omega
  have t0 : decide ((N : Int) < 0) = false := decide_eq_false (by omega)
  have HLT := hide h.lt
  have HFR := hide hfr
  have H1 := hide h1
  have HFS := hide hfs
  have HC := hide hc
  obtain ⟨d0, d1⟩ := hcs
  clear h hp hN h1 hfr hfs hc
  go_enter Try.func27, Try.ntmps27
  go_upto_region 6 with fail
  have k1 : KpF (fun _ => False) X (X.alloc (.cells #[.string s, .string w] 68)) := KpF.of ((Below.refl X.heap.size X).alloc (Nat.le_refl _) _)
  have HB1 := hide (Cls.new X 68 #[.string s, .string w])
  have HFF := hide (unhide HFR (X.alloc (.cells #[.string s, .string w] 68)) k1)
  have H11 := hide ((unhide H1).kpf k1 (fun e => e))
  have HK1 := hide k1
  have hgb : gb < X.heap.size := unhide HLT gb (.inr (.inl hk))
  have a0 := (World.cell?_of_block (a := ⟨gb, of + N * 2, none⟩) (k1.block gb hgb (fun e => e))).trans d0
  have f0 := (World.frozen?_of_block (a := ⟨gb, of + N * 2, none⟩) (k1.block gb hgb (fun e => e))).trans (unhide HFS).1
  have a1 := (World.cell?_of_block (a := ⟨gb, of + N * 2 + 1, none⟩) (k1.block gb hgb (fun e => e))).trans d1
  have f1 := (World.frozen?_of_block (a := ⟨gb, of + N * 2 + 1, none⟩) (k1.block gb hgb (fun e => e))).trans (unhide HFS).2
  generalize (X.alloc (.cells #[.string s, .string w] 68)) = X1 at *
  clear b0 d0 d1 HFR H1 HFS k1
  have b0 : X1.cell? ⟨g, 2, none⟩ = some (.slice (some ⟨gb, of, none⟩) (N + 1) cap) := ((unhide H11).cell 2).trans rfl
  have fb := (unhide H11).frozen 2
  have hle : N ≤ cap := Nat.le_of_succ_le (unhide HC)
  have hle' : (N : Int) ≤ cap := by omega
  go_upto_region 8 with fail
  generalize (((X1.setCell ⟨gb, of + N * 2, none⟩ (.string ⟨#[]⟩)).setCell ⟨gb, of + N * 2 + 1, none⟩ (.string ⟨#[]⟩)).setCell ⟨g, 2, none⟩ (.slice (some ⟨gb, of, none⟩) N cap)) = X3 at *
  have HI3 := hide (unhide HFF).1
  have hout : ¬ FO g kb ka ko X.heap.size := fun e => Nat.lt_irrefl _ (unhide HLT _ e)
  have hB0 : X.heap.size < X1.heap.size := (unhide HB1).lt
  have HG3b : Hid (Gr (FO g kb ka ko) X1 (FO g kb ka ko) X3) := hide ⟨(unhide HFF).2, fun _ e => .inl e⟩
  have HB3 := hide ((unhide HB1).kpf (unhide HFF).2 hout)
  have HG3 : Hid (Gr (FO g kb ka ko) X (FO g kb ka ko) X3) := hide ⟨((unhide HK1).mono (fun _ _ e => e.elim)).trans (unhide HFF).2 (fun _ _ e => e), fun _ e => .inl e⟩
  obtain ⟨vb3, va3, vo3, v', Y, k', h1, hr, h2, h3, h4, h5, h6, h7⟩ := pshAS X3.drew g { p with b := Q } kb ka ko ((unhide HI3).kpf (kpf_drew X3) (fun _ _ e => e)) p.s w hn
  have hz3 : (p.a ++ [(p.s, w)]).length = p.a.length + 1 := by simp
  dsimp only at h5
  rw [hz3] at h5
  obtain ⟨g9, of9, cp9, rfl, _⟩ := h5.form (by omega)
  have hB4 : Cls X3.drew X.heap.size 68 #[.string s, .string w] := unhide HB3
  have hB5 := hB4.alloc (.cells #[.string p.s, .string w] 68)
  have h1a := h1.alloc (.cells #[.string p.s, .string w] 68)
  have hB6 := hB4.kpf h7 hout
  have HSX : Hid (X3.drew.cell? ⟨g, 3, none⟩ = some va3 ∧ X3.drew.cell? ⟨g, 0, none⟩ = some (.string p.s) ∧ X3.drew.cell? ⟨X.heap.size, 1, none⟩ = some (.string w)) := hide ⟨(h1.cell 3).trans rfl, (h1.cell 0).trans rfl, (hB4.cell 1).trans rfl⟩
  have HSA : Hid ((X3.drew.alloc (.cells #[.string p.s, .string w] 68)).cell? ⟨g, 3, none⟩ = some va3 ∧ (X3.drew.alloc (.cells #[.string p.s, .string w] 68)).cell? ⟨g, 0, none⟩ = some (.string p.s) ∧ (X3.drew.alloc (.cells #[.string p.s, .string w] 68)).cell? ⟨X.heap.size, 1, none⟩ = some (.string w)) := hide ⟨(h1a.cell 3).trans rfl, (h1a.cell 0).trans rfl, (hB5.cell 1).trans rfl⟩
  have HSY : Hid (Y.cell? ⟨g, 3, none⟩ = some va3 ∧ Y.cell? ⟨g, 0, none⟩ = some (.string p.s) ∧ Y.cell? ⟨X.heap.size, 1, none⟩ = some (.string w)) := hide ⟨(h2.cell 3).trans rfl, (h2.cell 0).trans rfl, (hB6.cell 1).trans rfl⟩
  have R1 := hide hr
  have f2 := h2.frozen 3
  have e2 : Y.cell? ⟨g, 3, none⟩ = some va3 := (h2.cell 3).trans rfl
  have HB6 := hide (hB6.kpf (KpF.set (F := fun i => i = g) Y ⟨g, 3, none⟩ (.slice (some ⟨g9, of9, none⟩) (p.a.length + 1) cp9) rfl) (fun e => by have := unhide HLT g (.inl rfl); omega))
  have H3 := hide h3
  have H4 := hide h4
  have HG6 := hide h6
  clear HFF HI3 HB1 HB3 h1 hr h2 h3 h4 h5 h6 h7 hB4 hB5 hB6 h1a H11 b0 fb a0 f0 a1 f1
  refine regionL (S := fun z => z.cell? ⟨g, 3, none⟩ = some va3 ∧ z.cell? ⟨g, 0, none⟩ = some (.string p.s) ∧ z.cell? ⟨X.heap.size, 1, none⟩ = some (.string w)) (fun i => i == 14) (by kernel_rfl) ?_
  refine anyL_take (i := 0) (v := ?vq8) rfl (by kernel_rfl) (by kernel_rfl) (by kernel_rfl) (by kernel_rfl) (fun _ _ _ h => h) (Or.inl ⟨by rfl, ?hq8⟩) (unhide HSX) ?_
  case hq8 => (intro w hSw; (try dsimp only at hSw); go_simp) <;> with_reducible rfl
  simp only [Act.put, List.getElem_toArray, List.getElem_cons_zero, List.setIfInBounds_toArray, List.set_cons_zero, List.set_cons_succ]
  refine anyL_take (i := 1) (v := ?vq9) rfl (by kernel_rfl) (by kernel_rfl) (by kernel_rfl) (by kernel_rfl) (fun _ _ _ h => h) (Or.inl ⟨by rfl, ?hq9⟩) (unhide HSX) ?_
  case hq9 => (intro w hSw; (try dsimp only at hSw); go_simp) <;> with_reducible rfl
  simp only [Act.put, List.getElem_toArray, List.getElem_cons_zero, List.getElem_cons_succ, List.setIfInBounds_toArray, List.set_cons_zero, List.set_cons_succ]
  refine anyL_take (i := 2) (v := ?vq10) rfl (by kernel_rfl) (by kernel_rfl) (by kernel_rfl) (by kernel_rfl) (fun _ _ _ h => h) (Or.inl ⟨by rfl, ?hq10⟩) (unhide HSX) ?_
  case hq10 => (intro w hSw; (try dsimp only at hSw); go_simp) <;> with_reducible rfl
  simp only [Act.put, List.getElem_toArray, List.getElem_cons_zero, List.getElem_cons_succ, List.setIfInBounds_toArray, List.set_cons_zero, List.set_cons_succ]
  refine anyL_take (i := 3) (v := ?vq11) rfl (by kernel_rfl) (by kernel_rfl) (by kernel_rfl) (by kernel_rfl) (fun _ _ _ h => h) (Or.inl ⟨by rfl, ?hq11⟩) (unhide HSX) ?_
  case hq11 => (intro w hSw; (try dsimp only at hSw); go_simp) <;> with_reducible rfl
  simp only [Act.put, List.getElem_toArray, List.getElem_cons_zero, List.getElem_cons_succ, List.setIfInBounds_toArray, List.set_cons_zero, List.set_cons_succ]
  refine anyL_take (i := 4) (v := ?vq12) rfl (by kernel_rfl) (by kernel_rfl) (by kernel_rfl) (by kernel_rfl) (fun _ _ _ h => h) (Or.inl ⟨by rfl, ?hq12⟩) (unhide HSX) ?_
  case hq12 => (intro w hSw; (try dsimp only at hSw); go_simp) <;> with_reducible rfl
  simp only [Act.put, List.getElem_toArray, List.getElem_cons_zero, List.getElem_cons_succ, List.setIfInBounds_toArray, List.set_cons_zero, List.set_cons_succ]
  refine anyL_take (i := 5) (v := ?vq13) rfl (by kernel_rfl) (by kernel_rfl) (by kernel_rfl) (by kernel_rfl) (fun _ _ _ h => h) (Or.inl ⟨by rfl, ?hq13⟩) (unhide HSX) ?_
  case hq13 => (intro w hSw; (try dsimp only at hSw); go_simp) <;> with_reducible rfl
  simp only [Act.put, List.getElem_toArray, List.getElem_cons_zero, List.getElem_cons_succ, List.setIfInBounds_toArray, List.set_cons_zero, List.set_cons_succ]
  refine anyL_take (i := 6) (v := ?vq14) rfl (by kernel_rfl) (by kernel_rfl) (by kernel_rfl) (by kernel_rfl) (fun _ _ _ h => h) (Or.inl ⟨by rfl, ?hq14⟩) (unhide HSX) ?_
  case hq14 => (intro w hSw; (try dsimp only at hSw); go_simp) <;> with_reducible rfl
  simp only [Act.put, List.getElem_toArray, List.getElem_cons_zero, List.getElem_cons_succ, List.setIfInBounds_toArray, List.set_cons_zero, List.set_cons_succ]
  refine anyL_take (i := 7) (v := ?vq15) rfl (by kernel_rfl) (by kernel_rfl) (by kernel_rfl) (by kernel_rfl) (fun _ _ _ h => h) (Or.inl ⟨by rfl, ?hq15⟩) (unhide HSX) ?_
  case hq15 => (intro w hSw; (try dsimp only at hSw); go_simp) <;> with_reducible rfl
  simp only [Act.put, List.getElem_toArray, List.getElem_cons_zero, List.getElem_cons_succ, List.setIfInBounds_toArray, List.set_cons_zero, List.set_cons_succ]
  refine anyL_take (i := 8) (v := ?vq16) rfl (by kernel_rfl) (by kernel_rfl) (by kernel_rfl) (by kernel_rfl) (fun _ _ _ h => h) (Or.inl ⟨by rfl, ?hq16⟩) (unhide HSX) ?_
  case hq16 => (intro w hSw; (try dsimp only at hSw); go_simp) <;> with_reducible rfl
  simp only [Act.put, List.getElem_toArray, List.getElem_cons_zero, List.getElem_cons_succ, List.setIfInBounds_toArray, List.set_cons_zero, List.set_cons_succ]
  refine anyL_take (i := 9) (v := ?vq17) rfl (by kernel_rfl) (by kernel_rfl) (by kernel_rfl) (by kernel_rfl) (fun _ _ _ h => h) (Or.inl ⟨by rfl, ?hq17⟩) (unhide HSX) ?_
  case hq17 => (intro w hSw; (try dsimp only at hSw); go_simp) <;> with_reducible rfl
  simp only [Act.put, List.getElem_toArray, List.getElem_cons_zero, List.getElem_cons_succ, List.setIfInBounds_toArray, List.set_cons_zero, List.set_cons_succ]
  refine anyL_take (i := 10) (v := ?vq18) rfl (by kernel_rfl) (by kernel_rfl) (by kernel_rfl) (by kernel_rfl) (fun _ _ _ h => h) (Or.inl ⟨by rfl, ?hq18⟩) (unhide HSX) ?_
  case hq18 => (intro w hSw; (try dsimp only at hSw); go_simp) <;> with_reducible rfl
  simp only [Act.put, List.getElem_toArray, List.getElem_cons_zero, List.getElem_cons_succ, List.setIfInBounds_toArray, List.set_cons_zero, List.set_cons_succ]
  refine anyL_ready (rs := [11]) (by kernel_rfl) (by simp) ?_
  refine AllL.cons rfl (fun K hK => ?_) AllL.nil
  go_simp
  refine unhide hK _ _ (fun _ => unhide HSA) ?_
  clear hK K
  refine anyL_ready (rs := [12]) (by kernel_rfl) (by simp) ?_
  refine AllL.cons rfl (fun K hK => ?_) AllL.nil
  refine step_append_in rfl _ _ 62 62 rfl _ _ rfl rfl _ _ (unhide R1) ?_
  go_simp
  clear R1
  refine unhide hK _ _ (fun _ => unhide HSY) ?_
  clear hK K
  refine anyL_take (i := 13) (v := ?vq19) rfl (by kernel_rfl) (by kernel_rfl) (by kernel_rfl) (by kernel_rfl) (fun _ _ _ h => h) (Or.inl ⟨by rfl, ?hq19⟩) (unhide HSY) ?_
  case hq19 => (intro w hSw; (try dsimp only at hSw); go_simp) <;> with_reducible rfl
  simp only [Act.put, List.getElem_toArray, List.getElem_cons_zero, List.getElem_cons_succ, List.setIfInBounds_toArray, List.set_cons_zero, List.set_cons_succ]
  refine anyL_ready (rs := [14]) (by kernel_rfl) (by simp) ?_
  refine AllL.cons rfl (fun K hK => ?_) AllL.nil
  go_simp
  refine unhide hK _ _ (fun h => by cases h) ?_
  clear hK K
  refine anyL_done (by kernel_rfl) ?_ _
  have HG4 := hide ((unhide HG3).trans ⟨(kpf_drew X3).mono (fun _ _ e => e.elim), fun _ e => .inl e⟩ |>.trans (unhide HG6))
  have HG4b := hide ((unhide HG3b).trans ⟨(kpf_drew X3).mono (fun _ _ e => e.elim), fun _ e => .inl e⟩ |>.trans (unhide HG6))
  clear HSX HSA HSY f2 e2 HG3 HG6 HG3b
  generalize Y.setCell ⟨g, 3, none⟩ (.slice (some ⟨g9, of9, none⟩) (p.a.length + 1) cp9) = X4 at *
  have HS5 := hide (stateS (unhide H3) s)
  have x0 : X4.cell? ⟨X.heap.size, 0, none⟩ = some (.string s) := ((unhide HB6).cell 0).trans rfl
  have x1 : X4.cell? ⟨X.heap.size, 1, none⟩ = some (.string w) := ((unhide HB6).cell 1).trans rfl
  have y0 := (unhide H4).cell 0
  have z0 := (unhide H4).frozen 0
  simp only [List.getElem?_toArray, List.getElem?_cons_zero] at y0
  go_upto_region 10 with fail
  have HB7 := hide ((unhide HB6).kpf (unhide HS5).2.kp ((unhide HG4b).out hB0 hout))
  have HG7 := hide ((unhide HG4).trans (unhide HS5).2)
  have HI7 := hide (unhide HS5).1
  dsimp only at HI7
  clear HB6 HS5 HG4 HG4b H3 H4 hB0 x0 x1 y0 z0
  generalize (X4.setCell ⟨g, 0, none⟩ (.string s)) = X5 at *
  have x0 : X5.cell? ⟨X.heap.size, 0, none⟩ = some (.string s) := ((unhide HB7).cell 0).trans rfl
  have x1 : X5.cell? ⟨X.heap.size, 1, none⟩ = some (.string w) := ((unhide HB7).cell 1).trans rfl
  have HI8 := hide ((unhide HI7).kpf (kpf_drew X5) (fun _ _ e => e))
  have HG8 := hide ((unhide HG7).trans ⟨(kpf_drew X5).mono (fun _ _ e => e.elim), fun _ e => .inl e⟩)
  clear HI7 HG7
  go_region
  go_wp2_with fail
  exact bodyPost_ret (results_tmp3 rfl _ _ _) rfl ⟨rfl, _, unhide HI8, unhide HG8⟩
end Go.Proofs.Ytdemfejladepjaa
