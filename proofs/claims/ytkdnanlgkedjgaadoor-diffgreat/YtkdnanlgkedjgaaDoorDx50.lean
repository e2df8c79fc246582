/- DiffGreat's walk (written by wip/tools/dha.py). · What the list of package-level variables gives: the table of classes holds its numbers; and a world for the witness. · DiffGreat: for every input the law returns true and every argument reads afterwards as it read before; conditions: the table of classes holds at the call what the program's text lays (the card ties it to that text). -/
import Derived.Test.YtkdnanlgkedjgaaDoorDx49
import Derived.Test.YtkdnanlgkedjgaaDoorCards
import Derived.Test.YtkdnanlgkedjgaaDoorTie
import Derived.Test.YtkdnanlgkedjgaaDoorDx02
import Derived.SizedLaws
import Derived.Deep.DeepHandedRow
import Derived.Lib.LaidTab
import Derived.Below
import Derived.ChangeOld
import Derived.ShutString
import Derived.OpenShut

section
namespace Go.Proofs.YtkdnanlgkedjgaaDoor
open Go.ChangeShapes Go.WideShapes Go.ChangeAt Go.RowKit
attribute [local go_sem] Oper.semAt_some

theorem rep_byl {n : Nat} {f : Int} (h : Sng f) : ByL (List.replicate n f) := fun x hx => by rw [List.eq_of_mem_replicate hx]; exact ⟨h.1, h.2.1⟩
theorem prL_byl {n : Nat} {f : Int} (h : Sng f) : ByL (prL f n) := fun x hx => by
  unfold prL at hx
  obtain ⟨q, hq, hx⟩ := List.mem_flatten.1 hx
  rw [List.eq_of_mem_replicate hq] at hx
  have h1 := h.1
  have h2 := h.2.1
  rcases List.mem_cons.1 hx with rfl | hx
  · omega
  · rw [List.mem_singleton] at hx; omega
theorem own_isBg {w : World} {B g n c : Nat} {l : List Int} (h : Own w B (.slice (some ⟨g, 0, none⟩) n c) l) (hl : ByL l) (hn : l.length ≤ 140737488351232) : IsB w (some ⟨g, 0, none⟩) c l := by
  rcases h.2 with ⟨e, _⟩ | ⟨g', cap, cur, e, _, _, hc, _⟩
  · cases e
  · have e1 : g = g' ∧ c = cap := by simp at e; exact ⟨e.1, e.2.2⟩
    obtain ⟨rfl, rfl⟩ := e1
    exact ⟨hc, hn, Or.inr ⟨g, 0, rfl, h.lies hl⟩, hl⟩
theorem own_isBf {w : World} {B : Nat} {v : Value} {l : List Int} (h : Own w B v l) (hl : ∀ x ∈ l, 0 ≤ x ∧ x ≤ 255) (hn : l.length ≤ 140737488351232) : ∃ a c, v = .slice a l.length c ∧ IsB w a c l := by
  have hh := h
  rcases h.2 with ⟨rfl, h0⟩ | ⟨g, cap, cur, rfl, _, _, hc, _⟩
  · have h0' : l = [] := List.length_eq_zero_iff.1 h0
    exact ⟨none, 0, by rw [h0], by omega, hn, Or.inl h0', hl⟩
  · exact ⟨some ⟨g, 0, none⟩, cap, rfl, hc, hn, Or.inr ⟨g, 0, rfl, hh.lies hl⟩, hl⟩
theorem pair_isB (X : World) (f : Int) (h0 : 0 ≤ f) (h1 : f ≤ 255) : IsB (X.alloc (.cells #[.int .u8 f, .int .u8 10] 5)) (some ⟨X.heap.size, 0, none⟩) 2 [f, 10] := by
  have := lit_isBD X [f, 10] (0, 0) (fun x hx => by
    rcases List.mem_cons.1 hx with rfl | hx
    · exact ⟨h0, h1⟩
    · rw [List.mem_singleton] at hx; omega) (by simp)
  exact this
theorem keep_lit (X : World) (n : Int) : IsO (X.alloc (.cells #[.int .i64 1, .int .i64 n, .string ⟨#[]⟩] 38)) (some ⟨X.heap.size, 0, none⟩) [⟨1, n, []⟩] :=
  lit_isOD X [⟨1, n, []⟩] #[.int .i64 1, .int .i64 n, .string ⟨#[]⟩] rfl
def badW (wh : Int) : Prop := wh = 1 ∨ wh = 2
instance (wh : Int) : Decidable (badW wh) := inferInstanceAs (Decidable (_ ∨ _))
def naW (wh : Int) : Nat := if wh = 1 then 2049 else 2048
def nbW (wh : Int) : Nat := if wh = 2 then 2049 else 2048
/-- the delta that Least, or Lines, answers -/
def ldW (bad : Bool) (n : Int) : List Dop := if bad then [] else [⟨1, n, []⟩]
set_option maxRecDepth 100000 in
set_option maxHeartbeats 8000000 in
theorem DiffGreat_any (f wh : Int) (w : World) (hf0 : 0 ≤ f) (hf1 : f ≤ 255) (hT : Tab w) :
    Calls Tryd.prog 4 #[.int .u8 f, .int .i64 wh] w fun e w' => e = .returned (.bool true) ∧ Below w.heap.size w w' := by
  have HW := hide (wakes19_at w hT)
  have HT := hide hT
  clear hT
  go_enter Tryd.func4, Tryd.ntmps4
  go_wp2_with fail
  refine (unhide HW).mono ?_
  rintro e w1 ⟨rfl, hb1⟩
  dsimp only
  have H1 := hide hb1
  clear HW hb1
  by_cases hs : 194 ≤ f ∧ f ≤ 244
  · have t1 : decide (f ≥ 194) = true := decide_eq_true hs.1
    have t2 : decide (f ≤ 244) = true := decide_eq_true hs.2
    have t3 : decide (194 ≤ f) = true := decide_eq_true hs.1
    clear hs
    go_wp2_with fail
    exact bodyPost_ret (results_tmp rfl _ _ _) rfl ⟨rfl, unhide H1⟩
  have HSN := hide (show Sng f from ⟨hf0, hf1, hs⟩)
  go_upto_region 3 with fail
  go_cut [26] (fun v wz => v = .bool false ∧ Hid (Below w.heap.size w wz))
  case first =>
    by_cases hs1 : 194 ≤ f
    · have t1 : decide (f ≥ 194) = true := decide_eq_true hs1
      have t2 : decide (f ≤ 244) = false := decide_eq_false (by omega)
      have t3 : decide (194 ≤ f) = true := decide_eq_true hs1
      clear hs hs1
      go_wp2_with fail
      go_meet
      case rel => exact ⟨rfl, H1⟩
    · have t1 : decide (f ≥ 194) = false := decide_eq_false hs1
      have t3 : decide (194 ≤ f) = false := decide_eq_false hs1
      clear hs hs1
      go_wp2_with fail
      go_meet
      case rel => exact ⟨rfl, H1⟩
  case rest =>
    obtain ⟨rfl, H2⟩ := hcut
    clear hs H1
    obtain ⟨N, hN⟩ : ∃ N : Nat, N = 2048 := ⟨_, rfl⟩
    have hNI : ((N : Nat) : Int) = 2048 := by omega
    have HNN := hide hN
    go_upto_region 5 with fail
    go_cut [5, 6] (fun a b wz => ∃ ga gb ca cb : Nat, a = .slice (some ⟨ga, 0, none⟩) N ca ∧ b = .slice (some ⟨gb, 0, none⟩) N cb ∧ Hid (GrA w wz ga gb (fil N f 0) (fil N f 0) ca cb))
    case first =>
      obtain ⟨X1, X2, r1, r2, hg⟩ := GrA.two w _ (unhide H2).drew N (by omega) (by omega)
      rw [hNI] at r1 r2
      have e0 : List.replicate N (0 : Int) = fil N f 0 := by unfold fil; simp
      rw [e0] at hg
      have HG := hide hg
      have HG' := hide hg.swap
      clear hg e0 hN hNI
      refine regionL (S := fun _ => True) (fun _ => false) (by kernel_rfl) ?_
      refine anyL_ready (rs := [0, 1]) (by kernel_rfl) (by simp) ?_
      refine AllL.cons rfl (fun K hK => ?_) (AllL.cons rfl (fun K hK => ?_) AllL.nil)
      · go_simp
        refine unhide hK _ _ (fun _ => trivial) ?_
        clear hK K
        refine anyL_take (i := 2) (v := ?vq0) rfl (by kernel_rfl) (by kernel_rfl) (by kernel_rfl) (by kernel_rfl) (fun _ _ _ h => h) (Or.inl ⟨by rfl, ?hq0⟩) (trivial) ?_
        case hq0 => (intro w hSw; (try dsimp only at hSw); go_simp) <;> with_reducible rfl
        simp only [Act.put, List.getElem_toArray, List.getElem_cons_zero, List.getElem_cons_succ, List.setIfInBounds_toArray, List.set_cons_zero, List.set_cons_succ]
        refine anyL_ready (rs := [1]) (by kernel_rfl) (by simp) ?_
        refine AllL.cons rfl (fun K hK => ?_) AllL.nil
        go_simp
        refine unhide hK _ _ (fun _ => trivial) ?_
        clear hK K
        refine anyL_take (i := 3) (v := ?vq1) rfl (by kernel_rfl) (by kernel_rfl) (by kernel_rfl) (by kernel_rfl) (fun _ _ _ h => h) (Or.inl ⟨by rfl, ?hq1⟩) (trivial) ?_
        case hq1 => (intro w hSw; (try dsimp only at hSw); go_simp) <;> with_reducible rfl
        simp only [Act.put, List.getElem_toArray, List.getElem_cons_zero, List.getElem_cons_succ, List.setIfInBounds_toArray, List.set_cons_zero, List.set_cons_succ]
        refine anyL_done (by kernel_rfl) ?_ _
        (try go_wp2_with fail)
        go_meet
        case rel => exact ⟨_, _, _, _, rfl, rfl, HG⟩
      · go_simp
        refine unhide hK _ _ (fun _ => trivial) ?_
        clear hK K
        refine anyL_ready (rs := [0]) (by kernel_rfl) (by simp) ?_
        refine AllL.cons rfl (fun K hK => ?_) AllL.nil
        go_simp
        refine unhide hK _ _ (fun _ => trivial) ?_
        clear hK K
        refine anyL_take (i := 2) (v := ?vq2) rfl (by kernel_rfl) (by kernel_rfl) (by kernel_rfl) (by kernel_rfl) (fun _ _ _ h => h) (Or.inl ⟨by rfl, ?hq2⟩) (trivial) ?_
        case hq2 => (intro w hSw; (try dsimp only at hSw); go_simp) <;> with_reducible rfl
        simp only [Act.put, List.getElem_toArray, List.getElem_cons_zero, List.getElem_cons_succ, List.setIfInBounds_toArray, List.set_cons_zero, List.set_cons_succ]
        refine anyL_take (i := 3) (v := ?vq3) rfl (by kernel_rfl) (by kernel_rfl) (by kernel_rfl) (by kernel_rfl) (fun _ _ _ h => h) (Or.inl ⟨by rfl, ?hq3⟩) (trivial) ?_
        case hq3 => (intro w hSw; (try dsimp only at hSw); go_simp) <;> with_reducible rfl
        simp only [Act.put, List.getElem_toArray, List.getElem_cons_zero, List.getElem_cons_succ, List.setIfInBounds_toArray, List.set_cons_zero, List.set_cons_succ]
        refine anyL_done (by kernel_rfl) ?_ _
        (try go_wp2_with fail)
        go_meet
        case rel => exact ⟨_, _, _, _, rfl, rfl, HG'⟩
    case rest =>
      obtain ⟨ga, gb, ca, cb, rfl, rfl, HG⟩ := hcut
      clear hN hNI
      go_wp2_with fail
      go_loopw [7, 31] (fun v7 v31 wx => (∃ z, v7 = z) ∧ ∃ k : Nat, v31 = .int .i64 (k : Int) ∧ k ≤ N ∧ Hid (GrA w wx ga gb (fil N f k) (fil N f k) ca cb)) (fun _ v31 _ => N - (intOf v31).toNat)
      case atStart => exact ⟨⟨_, rfl⟩, 0, rfl, Nat.zero_le _, HG⟩
      case round =>
        clear HG
        obtain ⟨⟨z, rfl⟩, k, rfl, hk, HX⟩ := hrel
        by_cases h1 : k < N
        · have t1 : decide ((k : Int) < (N : Int)) = true := decide_eq_true (by omega)
          have f1 : (k : Int) < (N : Int) := by omega
          obtain ⟨⟨c1', z1⟩, c2', z2⟩ := (unhide HX).cells k (by rw [fil_len f hk]; exact h1) (by rw [fil_len f hk]; exact h1) f
          obtain ⟨y1, c1⟩ := Option.isSome_iff_exists.1 c1'
          obtain ⟨y2, c2⟩ := Option.isSome_iff_exists.1 c2'
          clear c1' c2'
          have HN2 := hide ((unhide HX).set k f)
          rw [fil_set f h1] at HN2
          have e3 : IntKind.i64.wrap ((k : Int) + 1) = (k : Int) + 1 := by have := unhide HNN; rw [IntKind.wrap_i64]; omega
          clear HX hk
          go_wp2_with fail
          go_roundw
          case rel => exact ⟨⟨_, rfl⟩, k + 1, by go_num, h1, HN2⟩
          case measure => simp [intOf]; omega
        · obtain rfl : k = N := by omega
          have t1 : decide ((k : Int) < (k : Int)) = false := decide_eq_false (by omega)
          have HA : Hid (GrA w wr ga gb (List.replicate k f) (List.replicate k f) ca cb) := hide (by have := unhide HX; rwa [fil_all] at this)
          clear HX h1 hk
          go_upto_if 44 with fail
          go_cut [5] (fun v wz => ∃ ga ca : Nat, v = .slice (some ⟨ga, 0, none⟩) (naW wh) ca ∧ Hid (GrA w wz ga gb (List.replicate (naW wh) f) (List.replicate k f) ca cb))
          case first =>
            by_cases hw : wh = 1
            · have t2 : (wh == 1) = true := by simp [hw]
              have hna : naW wh = k + 1 := by unfold naW; rw [if_pos hw]; have := unhide HNN; omega
              obtain ⟨g, c, X', r, hg⟩ := (unhide HA).push f 22 (by rw [List.length_replicate]; have := unhide HNN; omega)
              rw [← List.replicate_succ', ← hna] at hg
              rw [List.length_append, List.length_replicate, List.length_singleton, ← hna] at r
              have R := hide r
              have HR := hide hg
              clear r hg hw hna HA
              simp only [t2]
              go_wp2_with (at_builtin; refine wpList_append_known rfl _ _ 22 22 rfl _ _ rfl rfl _ _ (unhide R) ?_)
              go_meet
              case rel => exact ⟨_, _, rfl, HR⟩
            · have t2 : (wh == 1) = false := by simp [hw]
              have hna : naW wh = k := by unfold naW; rw [if_neg hw]; have := unhide HNN; omega
              have HNA := hide hna
              clear hw hna
              simp only [t2]
              go_wp2_with fail
              go_meet
              case rel => exact ⟨_, _, by rw [unhide HNA], by rw [unhide HNA]; exact HA⟩
          case rest =>
            obtain ⟨ga, ca, rfl, HA⟩ := hcut
            go_upto_if 50 with fail
            go_cut [6] (fun v wz => ∃ gb cb : Nat, v = .slice (some ⟨gb, 0, none⟩) (nbW wh) cb ∧ Hid (GrA w wz ga gb (List.replicate (naW wh) f) (List.replicate (nbW wh) f) ca cb))
            case first =>
              by_cases hw : wh = 2
              · have t2 : (wh == 2) = true := by simp [hw]
                have hna : nbW wh = k + 1 := by unfold nbW; rw [if_pos hw]; have := unhide HNN; omega
                obtain ⟨g, c, X', r, hg⟩ := (unhide HA).swap.push f 22 (by rw [List.length_replicate]; have := unhide HNN; omega)
                rw [← List.replicate_succ', ← hna] at hg
                rw [List.length_append, List.length_replicate, List.length_singleton, ← hna] at r
                have R := hide r
                have HR := hide hg.swap
                clear r hg hw hna HA
                simp only [t2]
                go_wp2_with (at_builtin; refine wpList_append_known rfl _ _ 22 22 rfl _ _ rfl rfl _ _ (unhide R) ?_)
                go_meet
                case rel => exact ⟨_, _, rfl, HR⟩
              · have t2 : (wh == 2) = false := by simp [hw]
                have hna : nbW wh = k := by unfold nbW; rw [if_neg hw]; have := unhide HNN; omega
                have HNA := hide hna
                clear hw hna
                simp only [t2]
                go_wp2_with fail
                go_meet
                case rel => exact ⟨_, _, by rw [unhide HNA], by rw [unhide HNA]; exact HA⟩
            case rest =>
              obtain ⟨gb, cb, rfl, HA⟩ := hcut
              obtain ⟨l, hl⟩ : ∃ l, l = List.replicate (naW wh) f := ⟨_, rfl⟩
              obtain ⟨m, hm⟩ : ∃ m, m = List.replicate (nbW wh) f := ⟨_, rfl⟩
              have ea : naW wh = l.length := by rw [hl, List.length_replicate]
              have eb : nbW wh = m.length := by rw [hm, List.length_replicate]
              have hbl : ByL l := by rw [hl]; exact rep_byl (unhide HSN)
              have hbm : ByL m := by rw [hm]; exact rep_byl (unhide HSN)
              have hza : naW wh ≤ 2049 := by unfold naW; split <;> omega
              have hzb : nbW wh ≤ 2049 := by unfold nbW; split <;> omega
              rw [← hl, ← hm] at HA
              have hcl : (cutS l).length = naW wh + 1 := by rw [hl, cutS_rep (unhide HSN)]
              have hcm : (cutS m).length = nbW wh + 1 := by rw [hm, cutS_rep (unhide HSN)]
              have hbad : badW wh ↔ ¬ ((cutS l).length ≤ 2049 ∧ (cutS m).length ≤ 2049) := by
                rw [hcl, hcm]; unfold badW naW nbW
                by_cases g1 : wh = 1 <;> by_cases g2 : wh = 2 <;> simp [g1, g2]
              have hsame : ¬ badW wh → l = m ∧ l.length = 2048 := fun g => by
                unfold badW at g
                rw [hl, hm]; unfold naW nbW
                rw [if_neg (fun h => g (.inl h)), if_neg (fun h => g (.inr h))]
                exact ⟨rfl, List.length_replicate⟩
              have hgl : ∀ i, i < l.length → l.getD i 0 = f := fun i hi => by
                rw [hl] at hi ⊢
                rw [List.length_replicate] at hi
                simp [List.getD, hi]
              have hgm : ∀ i, i < m.length → m.getD i 0 = f := fun i hi => by
                rw [hm] at hi ⊢
                rw [List.length_replicate] at hi
                simp [List.getD, hi]
              have HLN := hide (And.intro ea eb)
              rw [ea, eb]
              rw [ea] at hza
              rw [eb] at hzb
              clear ea eb hl hm hcl hcm
              obtain ⟨W, hWW⟩ : ∃ W, W = wc := ⟨_, rfl⟩
              have HIA := hide (own_isBg (unhide HA).a hbl (by omega))
              have HIB := hide (own_isBg (unhide HA).b hbm (by omega))
              have HD0 := hide (unhide HA).d
              have HLA := hide (unhide HA).la
              have HLB := hide (unhide HA).lb
              have HFC := hide (And.intro hbad (And.intro hsame (And.intro hgl hgm)))
              clear HA hbad hsame hgl hgm
              obtain ⟨EE, hEE⟩ : ∃ EE : Int, EE = if badW wh then 190 else 0 := ⟨_, rfl⟩
              obtain ⟨LD, hLD⟩ : ∃ LD, LD = ldW (decide (badW wh)) 2048 := ⟨_, rfl⟩
              have HEE := hide (And.intro hEE hLD)
              clear hEE hLD hWW
              go_wp2_with fail
              refine (own19_at (some ⟨ga, 0, none⟩) ca l wc (unhide HIA)).mono ?_
              rintro e u1 ⟨p1, q1, rfl, i1, hb1⟩
              dsimp only
              have G1 := hide hb1
              have I1 := hide i1
              clear hb1 i1
              go_wp2_with fail
              refine (own19_at (some ⟨gb, 0, none⟩) cb m u1 ((unhide HIB).below (unhide G1) (Nat.le_refl _))).mono ?_
              rintro e u2 ⟨p2, q2, rfl, i2, hb2⟩
              dsimp only
              have G2 := hide ((unhide G1).trans (hb2.mono (unhide G1).size))
              have HDC := hide (Distance_at p1 q1 l p2 q2 m u2 ((unhide I1).below hb2 (Nat.le_refl _)) i2 ((unhide HT).below ((unhide HD0).trans ((unhide G2).mono (unhide HD0).size)) (unhide HT).size))
              clear hb2 i2 I1 G1
              go_wp2_with fail
              refine (unhide HDC).mono ?_
              rintro e u3 ⟨hb3, hd⟩
              have G3 := hide ((unhide G2).trans (hb3.mono (unhide G2).size))
              obtain rfl : e = .returned (.tuple #[.int .i64 0, .int .i64 EE]) := by
                rcases hd with ⟨hno, rfl⟩ | ⟨y1, y2, rfl⟩
                · rw [(unhide HEE).1, if_pos ((unhide HFC).1.2 hno)]
                · have hnb : ¬ badW wh := fun g => (unhide HFC).1.1 g ⟨y1, y2⟩
                  rw [(unhide HEE).1, if_neg hnb, ((unhide HFC).2.1 hnb).1, alo_self]; rfl
              dsimp only
              clear hb3 hd HDC G2
              go_wp2_with fail
              refine (own19_at (some ⟨ga, 0, none⟩) ca l u3 ((unhide HIA).below (unhide G3) (Nat.le_refl _))).mono ?_
              rintro e u4 ⟨p4, q4, rfl, i4, hb4⟩
              dsimp only
              have G4 := hide ((unhide G3).trans (hb4.mono (unhide G3).size))
              have I4 := hide i4
              clear hb4 i4 G3
              go_wp2_with fail
              refine (own19_at (some ⟨gb, 0, none⟩) cb m u4 ((unhide HIB).below (unhide G4) (Nat.le_refl _))).mono ?_
              rintro e u5 ⟨p5, q5, rfl, i5, hb5⟩
              dsimp only
              have G5 := hide ((unhide G4).trans (hb5.mono (unhide G4).size))
              have HDC := hide (Least_at p4 q4 l p5 q5 m u5 ((unhide I4).below hb5 (Nat.le_refl _)) i5 ((unhide HT).below ((unhide HD0).trans ((unhide G5).mono (unhide HD0).size)) (unhide HT).size) (by omega) (by omega))
              unfold LeastP at HDC
              clear hb5 i5 I4 G4
              go_wp2_with fail
              refine (unhide HDC).mono ?_
              rintro e u6 ⟨hb6, hd⟩
              have G6 := hide ((unhide G5).trans (hb6.mono (unhide G5).size))
              obtain ⟨pd, qd, rfl, hio⟩ : ∃ pd qd, e = .returned (.tuple #[.slice pd LD.length qd, .int .i64 EE]) ∧ IsO u6 pd LD := by
                rcases hd with ⟨hno, rfl⟩ | ⟨y1, y2, v, rfl, ho⟩
                · have hb := (unhide HFC).1.2 hno
                  refine ⟨none, 0, ?_, ?_⟩
                  · rw [(unhide HEE).1, (unhide HEE).2, if_pos hb, decide_eq_true hb]; rfl
                  · rw [(unhide HEE).2, decide_eq_true hb]; exact Or.inl rfl
                · have hnb : ¬ badW wh := fun g => (unhide HFC).1.1 g ⟨y1, y2⟩
                  obtain ⟨e1, e2⟩ := (unhide HFC).2.1 hnb
                  subst e1
                  rw [least_self (cutS_ok l) (by omega), e2] at ho
                  obtain ⟨pd, qd, rfl, hi, -⟩ := own_isOE ho
                  refine ⟨pd, qd, ?_, ?_⟩
                  · rw [(unhide HEE).1, (unhide HEE).2, if_neg hnb, decide_eq_false hnb]; rfl
                  · rw [(unhide HEE).2, decide_eq_false hnb]; exact hi
              dsimp only
              have ID := hide hio
              clear hb6 hd HDC G5 hio
              go_wp2_with fail
              go_loopw [12, 14, 73] (fun v1 v2 v3 wx => (∃ z, v2 = z) ∧ ∃ k : Nat, v3 = .int .i64 (k : Int) ∧ k ≤ l.length ∧ Hid (Own wx u6.heap.size v1 (prL f k) ∧ Below u6.heap.size u6 wx)) (fun _ _ v3 _ => l.length - (intOf v3).toNat)
              case atStart => exact ⟨⟨_, rfl⟩, 0, rfl, Nat.zero_le _, hide ⟨World.ownsRow_nil _ _ _ _, Below.refl _ _⟩⟩
              case round =>
                obtain ⟨⟨zx, rfl⟩, kx, rfl, hkx, HXx⟩ := hrel
                by_cases h1 : kx < l.length
                · have t1 : decide ((kx : Int) < (l.length : Int)) = true := decide_eq_true (by omega)
                  have f1 : (kx : Int) < (l.length : Int) := by omega
                  obtain ⟨ho, hbx⟩ := unhide HXx
                  have XB : Below wc.heap.size wc wr := (unhide G6).trans (hbx.mono (unhide G6).size)
                  have hI := (unhide HIA).below XB (Nat.le_refl _)
                  have c1 : wr.cell? ⟨ga, kx, none⟩ = some (.int .u8 f) := by
                    rcases hI.2.2.1 with h | ⟨g', o', e, hL⟩
                    · rw [h] at h1; exact absurd h1 (Nat.not_lt_zero _)
                    · cases e
                      have := (hL kx h1).1
                      rw [Nat.zero_add, (unhide HFC).2.2.1 kx h1] at this
                      exact this
                  have hpl := prL_len f kx
                  obtain ⟨v', X', r, o', b'⟩ := run_moreV (wr.alloc (.cells #[.int .u8 f, .int .u8 10] 5)) u6.heap.size u12 (prL f kx) [f, 10] (some ⟨wr.heap.size, 0, none⟩) 2 22 (World.ownsRow.alloc ho _) (pair_isB wr f hf0 hf1) (by simp) (by have := hbx.size; simp; omega) (by rw [hpl, show [f, 10].length = 2 from rfl]; omega)
                  rw [show [f, 10].length = 2 from rfl] at r
                  rw [← prL_succ] at o'
                  have HN := hide (And.intro o' ((hbx.alloc hbx.size (.cells #[.int .u8 f, .int .u8 10] 5)).trans b'))
                  have R := hide r
                  have e3 : IntKind.i64.wrap ((kx : Int) + 1) = (kx : Int) + 1 := by rw [IntKind.wrap_i64]; omega
                  clear ho hbx XB hI r o' b' hpl HXx hkx
                  go_wp2_with (at_builtin; refine wpList_append_known rfl _ _ 22 22 rfl _ _ rfl rfl _ _ (unhide R) ?_)
                  go_roundw
                  case rel => exact ⟨⟨_, rfl⟩, kx + 1, by go_num, h1, HN⟩
                  case measure => simp [intOf]; omega
                · obtain rfl : kx = l.length := by omega
                  have t1 : decide ((l.length : Int) < (l.length : Int)) = false := decide_eq_false (by omega)
                  obtain ⟨ho, hbx⟩ := unhide HXx
                  clear h1 hkx HXx
                  have hplx := prL_len f l.length
                  obtain ⟨Lx, hLx⟩ : ∃ L, L = prL f l.length := ⟨_, rfl⟩
                  rw [← hLx] at ho hplx
                  obtain ⟨px, qx, hv, ix⟩ := own_isBf ho (by rw [hLx]; exact prL_byl (unhide HSN)) (by omega)
                  subst hv
                  obtain ⟨Wx, hW⟩ : ∃ W, W = wr := ⟨_, rfl⟩
                  rw [← hW] at hbx ix ⊢
                  have Gx := hide ((unhide G6).trans (hbx.mono (unhide G6).size))
                  have Ix := hide ix
                  have Bx := hide hbx
                  have HLx := hide (And.intro hLx hplx)
                  clear ho hbx ix hW hLx hplx
                  go_wp2_with fail
                  go_loopw [13, 15, 86] (fun v1 v2 v3 wx => (∃ z, v2 = z) ∧ ∃ k : Nat, v3 = .int .i64 (k : Int) ∧ k ≤ m.length ∧ Hid (Own wx Wx.heap.size v1 (prL f k) ∧ Below Wx.heap.size Wx wx)) (fun _ _ v3 _ => m.length - (intOf v3).toNat)
                  case atStart => exact ⟨⟨_, rfl⟩, 0, rfl, Nat.zero_le _, hide ⟨World.ownsRow_nil _ _ _ _, Below.refl _ _⟩⟩
                  case round =>
                    obtain ⟨⟨zy, rfl⟩, ky, rfl, hky, HXy⟩ := hrel
                    by_cases h1 : ky < m.length
                    · have t1 : decide ((ky : Int) < (m.length : Int)) = true := decide_eq_true (by omega)
                      have f1 : (ky : Int) < (m.length : Int) := by omega
                      obtain ⟨ho, hbx⟩ := unhide HXy
                      have XB : Below wc.heap.size wc wr := (unhide Gx).trans (hbx.mono (unhide Gx).size)
                      have hI := (unhide HIB).below XB (Nat.le_refl _)
                      have c1 : wr.cell? ⟨gb, ky, none⟩ = some (.int .u8 f) := by
                        rcases hI.2.2.1 with h | ⟨g', o', e, hL⟩
                        · rw [h] at h1; exact absurd h1 (Nat.not_lt_zero _)
                        · cases e
                          have := (hL ky h1).1
                          rw [Nat.zero_add, (unhide HFC).2.2.2 ky h1] at this
                          exact this
                      have hpl := prL_len f ky
                      obtain ⟨v', X', r, o', b'⟩ := run_moreV (wr.alloc (.cells #[.int .u8 f, .int .u8 10] 5)) Wx.heap.size u13 (prL f ky) [f, 10] (some ⟨wr.heap.size, 0, none⟩) 2 22 (World.ownsRow.alloc ho _) (pair_isB wr f hf0 hf1) (by simp) (by have := hbx.size; simp; omega) (by rw [hpl, show [f, 10].length = 2 from rfl]; omega)
                      rw [show [f, 10].length = 2 from rfl] at r
                      rw [← prL_succ] at o'
                      have HN := hide (And.intro o' ((hbx.alloc hbx.size (.cells #[.int .u8 f, .int .u8 10] 5)).trans b'))
                      have R := hide r
                      have e3 : IntKind.i64.wrap ((ky : Int) + 1) = (ky : Int) + 1 := by rw [IntKind.wrap_i64]; omega
                      clear ho hbx XB hI r o' b' hpl HXy hky
                      go_wp2_with (at_builtin; refine wpList_append_known rfl _ _ 22 22 rfl _ _ rfl rfl _ _ (unhide R) ?_)
                      go_roundw
                      case rel => exact ⟨⟨_, rfl⟩, ky + 1, by go_num, h1, HN⟩
                      case measure => simp [intOf]; omega
                    · obtain rfl : ky = m.length := by omega
                      have t1 : decide ((m.length : Int) < (m.length : Int)) = false := decide_eq_false (by omega)
                      obtain ⟨ho, hbx⟩ := unhide HXy
                      clear h1 hky HXy
                      have hply := prL_len f m.length
                      obtain ⟨Ly, hLy⟩ : ∃ L, L = prL f m.length := ⟨_, rfl⟩
                      rw [← hLy] at ho hply
                      obtain ⟨py, qy, hv, iy⟩ := own_isBf ho (by rw [hLy]; exact prL_byl (unhide HSN)) (by omega)
                      subst hv
                      obtain ⟨Wy, hW⟩ : ∃ W, W = wr := ⟨_, rfl⟩
                      rw [← hW] at hbx iy ⊢
                      have Gy := hide ((unhide Gx).trans (hbx.mono (unhide Gx).size))
                      have Iy := hide iy
                      have By := hide hbx
                      have HLy := hide (And.intro hLy hply)
                      clear ho hbx iy hW hLy hply
                      go_wp2_with fail
                      have hbad2 : (badW wh ∨ f = 10) ↔ ¬ ((cutN Lx).length ≤ 2049 ∧ (cutN Ly).length ≤ 2049) := by
                        rw [(unhide HLx).1, (unhide HLy).1, cutN_pr, cutN_pr, ← (unhide HLN).1, ← (unhide HLN).2]
                        unfold badW naW nbW
                        by_cases g1 : wh = 1 <;> by_cases g2 : wh = 2 <;> by_cases g3 : f = 10 <;> simp [g1, g2, g3] <;> omega
                      have HB2 := hide hbad2
                      have hsx : Lx.length ≤ 1048576 ∧ Ly.length ≤ 1048576 := by have h1 := (unhide HLx).2; have h2 := (unhide HLy).2; omega
                      obtain ⟨E2, hE2⟩ : ∃ E2 : Int, E2 = if badW wh ∨ f = 10 then 190 else 0 := ⟨_, rfl⟩
                      obtain ⟨LL, hLL⟩ : ∃ LL, LL = ldW (decide (badW wh ∨ f = 10)) 4096 := ⟨_, rfl⟩
                      have HE2 := hide (And.intro hE2 hLL)
                      have IX := hide ((unhide Ix).below (unhide By) (Nat.le_refl _))
                      have ID2 := hide ((unhide ID).below ((unhide Bx).trans ((unhide By).mono (unhide Bx).size)) (Nat.le_refl _))
                      clear hE2 hLL hbad2 Ix Bx By ID HIA HIB
                      refine (own19_at px qx Lx Wy (unhide IX)).mono ?_
                      rintro e u7 ⟨p7, q7, rfl, i7, hb7⟩
                      dsimp only
                      have G7 := hide ((unhide Gy).trans (hb7.mono (unhide Gy).size))
                      have I7 := hide i7
                      have J7 := hide ((unhide Iy).below hb7 (Nat.le_refl _))
                      have K7 := hide ((unhide ID2).below hb7 (Nat.le_refl _))
                      clear hb7 i7 Gy Iy ID2 IX
                      go_wp2_with fail
                      refine (own19_at py qy Ly u7 (unhide J7)).mono ?_
                      rintro e u8 ⟨p8, q8, rfl, i8, hb8⟩
                      dsimp only
                      have G8 := hide ((unhide G7).trans (hb8.mono (unhide G7).size))
                      have HDC := hide (LinesD_at p7 q7 Lx p8 q8 Ly u8 ((unhide I7).below hb8 (Nat.le_refl _)) i8 hsx.1 hsx.2)
                      have K8 := hide ((unhide K7).below hb8 (Nat.le_refl _))
                      unfold LeastP at HDC
                      clear hb8 i8 I7 J7 K7 G7 hsx
                      go_wp2_with fail
                      refine (unhide HDC).mono ?_
                      rintro e u9 ⟨hb9, hd⟩
                      have G9 := hide ((unhide G8).trans (hb9.mono (unhide G8).size))
                      have K9 := hide ((unhide K8).below hb9 (Nat.le_refl _))
                      obtain ⟨pl, ql, rfl, hio⟩ : ∃ pl ql, e = .returned (.tuple #[.slice pl LL.length ql, .int .i64 E2]) ∧ IsO u9 pl LL := by
                        rcases hd with ⟨hno, rfl⟩ | ⟨y1, y2, v, rfl, ho⟩
                        · have hb := (unhide HB2).2 hno
                          refine ⟨none, 0, ?_, ?_⟩
                          · rw [(unhide HE2).1, (unhide HE2).2, if_pos hb, decide_eq_true hb]; rfl
                          · rw [(unhide HE2).2, decide_eq_true hb]; exact Or.inl rfl
                        · have hnb : ¬ (badW wh ∨ f = 10) := fun g => (unhide HB2).1 g ⟨y1, y2⟩
                          obtain ⟨e1, e2⟩ := (unhide HFC).2.1 (fun g => hnb (.inl g))
                          have e3 : Lx = Ly := by rw [(unhide HLx).1, (unhide HLy).1, e1]
                          have e4 : Ly.length = 4096 := by have h2 := (unhide HLy).2; rw [← e1] at h2; omega
                          rw [e3, least_self (cutN_ok Ly) (by omega), e4] at ho
                          obtain ⟨pl, ql, rfl, hi, -⟩ := own_isOE ho
                          refine ⟨pl, ql, ?_, ?_⟩
                          · rw [(unhide HE2).1, (unhide HE2).2, if_neg hnb, decide_eq_false hnb]; rfl
                          · rw [(unhide HE2).2, decide_eq_false hnb]; exact hi
                      dsimp only
                      have KL := hide hio
                      have HF := hide ((unhide HD0).trans ((unhide G9).mono (unhide HD0).size))
                      clear hb9 hd HDC G8 K8 hio G9 HB2 HFC HLx HLy HLN HD0
                      by_cases hb : badW wh
                      · obtain rfl : EE = 190 := by rw [(unhide HEE).1, if_pos hb]
                        obtain rfl : LD = [] := by rw [(unhide HEE).2, decide_eq_true hb]; rfl
                        obtain rfl : E2 = 190 := by rw [(unhide HE2).1, if_pos (.inl hb)]
                        obtain rfl : LL = [] := by rw [(unhide HE2).2, decide_eq_true (.inl hb)]; rfl
                        clear HEE HE2
                        simp only [List.length_nil]
                        rcases hb with rfl | rfl
                        · go_wp2_with fail
                          exact bodyPost_ret (results_tmp rfl _ _ _) rfl ⟨rfl, unhide HF⟩
                        · go_wp2_with fail
                          exact bodyPost_ret (results_tmp rfl _ _ _) rfl ⟨rfl, unhide HF⟩
                      · obtain rfl : EE = 0 := by rw [(unhide HEE).1, if_neg hb]
                        obtain rfl : LD = [⟨1, 2048, []⟩] := by rw [(unhide HEE).2, decide_eq_false hb]; rfl
                        have t1 : (wh == 1) = false := by simp; exact fun h => hb (.inl h)
                        have t2 : (wh == 2) = false := by simp; exact fun h => hb (.inr h)
                        have b13 := (unhide HF).alloc (unhide HF).size (.cells (opsV [⟨1, 2048, []⟩]).toArray 38)
                        have e13 := (Below.refl u9.heap.size u9).alloc (Nat.le_refl _) (.cells (opsV [⟨1, 2048, []⟩]).toArray 38)
                        have i9 := lit_isOD u9 [⟨1, 2048, []⟩] (opsV [⟨1, 2048, []⟩]).toArray (by simp)
                        have HS := hide (RSameD_at pd qd [⟨1, 2048, []⟩] _ 1 [⟨1, 2048, []⟩] _ ((unhide K9).below e13 (Nat.le_refl _)) i9 (by decide) (by decide) (by unfold TbD; decide) (by unfold TbD; decide))
                        rw [decide_eq_true rfl] at HS
                        have HF2 := hide b13
                        have KL2 := hide ((unhide KL).below e13 (Nat.le_refl _))
                        simp only [List.length_cons, List.length_nil]
                        clear b13 e13 i9 K9 HF KL HEE
                        by_cases hf10 : f = 10
                        · obtain rfl : E2 = 190 := by rw [(unhide HE2).1, if_pos (.inr hf10)]
                          obtain rfl : LL = [] := by rw [(unhide HE2).2, decide_eq_true (.inr hf10)]; rfl
                          have t3 : (f == 10) = true := by simp [hf10]
                          simp only [List.length_nil]
                          clear HE2 hb hf10
                          go_wp2_with fail
                          refine (unhide HS).mono ?_
                          rintro y v1 ⟨rfl, hb1⟩
                          dsimp only
                          have HF3 := hide ((unhide HF2).trans (hb1.mono (unhide HF2).size))
                          clear HS hb1 HF2 KL2
                          go_wp2_with fail
                          exact bodyPost_ret (results_tmp rfl _ _ _) rfl ⟨rfl, unhide HF3⟩
                        · have hnn : ¬ (badW wh ∨ f = 10) := by rintro (h | h); exact hb h; exact hf10 h
                          obtain rfl : E2 = 0 := by rw [(unhide HE2).1, if_neg hnn]
                          obtain rfl : LL = [⟨1, 4096, []⟩] := by rw [(unhide HE2).2, decide_eq_false hnn]; rfl
                          have t3 : (f == 10) = false := by simp [hf10]
                          simp only [List.length_cons, List.length_nil]
                          clear HE2 hb hf10 hnn
                          go_wp2_with fail
                          refine (unhide HS).mono ?_
                          rintro y v1 ⟨rfl, hb1⟩
                          dsimp only
                          have HF3 := hide ((unhide HF2).trans (hb1.mono (unhide HF2).size))
                          have KL3 := hide ((unhide KL2).below hb1 (Nat.le_refl _))
                          clear HS hb1 HF2 KL2
                          have b14 := (unhide HF3).alloc (unhide HF3).size (.cells (opsV [⟨1, 4096, []⟩]).toArray 38)
                          have e14 := (Below.refl v1.heap.size v1).alloc (Nat.le_refl _) (.cells (opsV [⟨1, 4096, []⟩]).toArray 38)
                          have i10 := lit_isOD v1 [⟨1, 4096, []⟩] (opsV [⟨1, 4096, []⟩]).toArray (by simp)
                          have HS := hide (RSameD_at pl ql [⟨1, 4096, []⟩] _ 1 [⟨1, 4096, []⟩] _ ((unhide KL3).below e14 (Nat.le_refl _)) i10 (by decide) (by decide) (by unfold TbD; decide) (by unfold TbD; decide))
                          rw [decide_eq_true rfl] at HS
                          have HF4 := hide b14
                          clear b14 e14 i10 HF3 KL3
                          go_wp2_with fail
                          refine (unhide HS).mono ?_
                          rintro y v2 ⟨rfl, hb2⟩
                          dsimp only
                          have HF5 := hide ((unhide HF4).trans (hb2.mono (unhide HF4).size))
                          clear HS hb2 HF4
                          go_wp2_with fail
                          exact bodyPost_ret (results_tmp rfl _ _ _) rfl ⟨rfl, unhide HF5⟩
end Go.Proofs.YtkdnanlgkedjgaaDoor
end

section
namespace Go.Proofs.YtkdnanlgkedjgaaDoor
open Go.ChangeShapes Go.WideShapes Go.ChangeAt Go.RowKit

def tab : List Int := (List.range 245).map fun (i : Nat) => cls (i : Int)
theorem laid_eq : (Rows.laid_galley_octet_classes : DataW Unit) = Lib.tabData .u8 tab := by kernel_rfl
theorem ownC : ownKnob Tryd.prog.godebug = none := by kernel_rfl
theorem gTab : Tryd.prog.globalNamed "galley/octet.classes" = some 0 := by kernel_rfl
theorem gTabType : (Tryd.prog.globals[0]?).map (·.type) = some 138 := by kernel_rfl
theorem cellsTab : Tryd.prog.cellsOf 138 = 245 := by kernel_rfl
theorem cellsByte : Tryd.prog.cellsOf 5 = 1 := by kernel_rfl

theorem tab_of_laid {W : World} (h : laidMetH Tryd.prog [("galley/octet.classes", Rows.laid_galley_octet_classes)] W) : Tab W := by
  rw [laid_eq] at h
  have t := Lib.tabIs_of_head (rest := []) gTab gTabType Tryd.underlying138 Tryd.underlying5 cellsByte cellsTab h
  intro b h0 h1
  have hl : tab.length = 245 := by simp [tab]
  have := t.cell gTab b.toNat (by rw [hl]; omega)
  rw [this]
  have hb : b.toNat < 245 := by omega
  have e : tab.getD b.toNat 0 = cls b := by
    simp [tab, List.getD, hb, Int.toNat_of_nonneg h0]
  rw [e]

noncomputable def laidWorld (os : Os) : World :=
  { World.holding Tryd.prog os ⟨#[], #[], []⟩ with heap := (World.holding Tryd.prog os ⟨#[], #[], []⟩).heap.modify 0 fun
      | .cells _ t frozen => .cells (tab.map (Value.int .u8)).toArray t frozen
      | o => o }

theorem laidOut : laidOutB Tryd.prog = true := by kernel_rfl

/-- a []byte that came in reads as these bytes -/
theorem row_of_trod {H : Type} {enc : TypeId × Value → H} {W : World} {a0 : Option Addr} {len0 cap0 : Nat} {d0 : DataW H} {p0 : List MemPlace}
    (h0 : DataW.Trod enc Tryd.prog W 0 (fun _ => true) true 22 (Value.slice a0 len0 cap0) d0 p0)
    {ts : List TypeId} {ds : List (DataW H)} {j : Nat} (hsz : (DataW.weightsEach Tryd.prog ts ds).all (· ≤ reachBytes) = true) (ht : ts[j]? = some 22) (hd : ds[j]? = some d0) :
    ∃ l : List Int, len0 = l.length ∧ IsB W a0 cap0 l := by
  obtain ⟨fuel, hf⟩ := h0
  rcases open_ints Tryd.underlying22 Tryd.underlying5 (by kernel_rfl) hf with ⟨hcs, _⟩ | ⟨x, l, c, zs, hcs, _, hl, hm, hz, hx, hcell, hwz⟩
  · simp [Value.cells] at hcs
    obtain ⟨rfl, rfl, rfl⟩ := hcs
    exact ⟨[], rfl, by simp, by simp, Or.inl rfl, by simp⟩
  · simp [Value.cells] at hcs
    obtain ⟨rfl, rfl, rfl⟩ := hcs
    simp only [Prod.mk.injEq] at hx
    obtain ⟨rfl, _⟩ := hx
    have hz' : zs.length = cap0 := by simpa using hz
    have hs := sized_slice hsz ht hd Tryd.underlying22
    rw [show Tryd.prog.bytesOf 5 = 1 by kernel_rfl] at hs
    have hr : reachBytes = 140737488351232 := rfl
    simp [lits] at hs
    have hlen : (zs.take len0).length = len0 := by simp; omega
    have hby : ∀ x ∈ zs, 0 ≤ x ∧ x ≤ 255 := fun n hn => bounds_u8 (hwz n hn)
    refine ⟨zs.take len0, hlen.symm, by rw [hlen]; omega, by rw [hlen]; omega, ?_, fun y hy => hby y (List.mem_of_mem_take hy)⟩
    rcases Nat.eq_zero_or_pos len0 with h0 | h0
    · subst h0; exact Or.inl rfl
    · obtain ⟨b, off, spot⟩ := x
      have hspot : spot = none := by simpa [Addr.add] using World.cell?_spot (hcell 0 (by omega))
      subst hspot
      refine Or.inr ⟨b, off, rfl, fun i hi => ?_⟩
      rw [hlen] at hi
      have e : (zs.take len0).getD i 0 = zs.getD i 0 := by simp [List.getD, hi]
      rw [e]
      have hc := hcell i (by omega)
      rw [Addr.add_lit] at hc
      refine ⟨hc, ?_⟩
      have := hby (zs[i]'(by omega)) (List.getElem_mem _)
      simpa [List.getD, List.getElem?_eq_getElem (show i < zs.length by omega)] using this

end Go.Proofs.YtkdnanlgkedjgaaDoor
end

section
namespace Go.Proofs.YtkdnanlgkedjgaaDoor
open Go.ChangeShapes Go.WideShapes Go.ChangeAt Go.RowKit
open Go.ChangeMaps (open_string shut_string)

set_option maxRecDepth 100000 in
theorem diffGreat_contract (H : Type) (enc : TypeId × Value → H) (W : World) (base : Nat) (args : Array Value) (ds gs : List (DataW H)) (before : List MemPlace)
    (hval : ∀ (j : Nat) t v, Tryd.f4.params[j]? = some t → args[j]? = some v → Value.okWide Tryd.prog W .any base t v)
    (hW : DataW.Whole enc Tryd.prog Tryd.f4.params.toList Rows.diffGreatSpec.vars false W args.toList ds gs before) (hL : laidMetH Tryd.prog Rows.diffGreatRow.laid W) :
    Calls Tryd.prog 4 args W fun e W' => ∃ v, e = .returned v ∧ Rows.diffGreatSpec.post enc Tryd.prog Tryd.f4 false true false false W args v W' := by
  have hW' := hW
  obtain ⟨p, q, hA0, hV, rfl, _, _⟩ := hW
  have hA : DataW.TrodAll enc Tryd.prog W 0 (fun _ => true) true Tryd.f4.params.toList args.toList ds p := hA0
  rw [Tryd.params4] at hA hval
  obtain ⟨v0, vs0, d0, ds0, p0, q0, hargs, rfl, rfl, h0, r0⟩ := trodAll_cons hA
  obtain ⟨v1, vs1, d1, ds1, p1, q1, rfl, rfl, rfl, h1, r1⟩ := trodAll_cons r0
  obtain ⟨rfl, rfl, rfl⟩ := trodAll_nil r1
  obtain rfl : args = #[v0, v1] := by cases args; simp_all
  obtain ⟨rfl, rfl⟩ := trodVars_none hV
  obtain ⟨x0, rfl, rfl, rfl, w0⟩ := open_int Tryd.underlying5 (hval 0 5 v0 rfl rfl) h0
  obtain ⟨x1, rfl, rfl, rfl, w1⟩ := open_int Tryd.underlying3 (hval 1 3 v1 rfl rfl) h1
  clear hA0
  refine (DiffGreat_any x0 x1 W (bounds_u8 w0).1 (bounds_u8 w0).2 (tab_of_laid hL)).mono fun e W' ⟨he, bel⟩ => ?_
  subst he
  exact ⟨_, rfl, _, _, _, [], _, [], hW', trodAll_mk1 (shut_bool Tryd.underlying4 _), (trodAll_cons_mk (shut_int Tryd.underlying5 w0) (trodAll_cons_mk (shut_int Tryd.underlying3 w1) trodAll_mk0)), rfl, bel.frame _, fun h => by cases h⟩

theorem diffGreat_met (os : Os) : laidMet Tryd.prog Rows.diffGreatRow.laid ((laidWorld os).forCall (fun _ _ => 0) ⟨#[], #[.int .u8 0, .int .i64 0], []⟩).memory :=
  laidMet_of_run' 8 (by kernel_rfl) (by kernel_rfl)
theorem diffGreat_reads (os : Os) {H : Type} (enc : TypeId × Value → H) : ∃ places, DataW.whole enc Tryd.prog ((laidWorld os).forCall (fun _ _ => 0) ⟨#[], #[.int .u8 0, .int .i64 0], []⟩).memory Tryd.f4.params.toList Rows.diffGreatSpec.vars false (#[.int .u8 0, .int .i64 0] : Array Value).toList 8 = some ([.lit (.int .u8 0), .lit (.int .i64 0)], [], places) :=
  ⟨[], by kernel_rfl⟩

set_option maxRecDepth 100000 in
theorem diffGreat_lifted (os : Os) (started : os.Started) (H : Type) (enc : TypeId × Value → H) (F : Stop.Interp) :
    ReturnsInHanded {} Tryd.checked os 4 .any ((OpenSpec.ofChange Rows.diffGreatSpec).preRow enc Tryd.prog Tryd.f4 Rows.diffGreatRow.domain false Rows.diffGreatRow.laid) (((OpenSpec.ofChange Rows.diffGreatSpec).at F).post enc Tryd.prog Tryd.f4 false true false false) := by
  obtain ⟨places, hx⟩ := diffGreat_reads os enc
  refine returnsInHanded_of_row (C := Tryd.checked) (s := OpenSpec.ofChange Rows.diffGreatSpec) ownC started (by kernel_rfl) Tryd.func4
    (witness_row_at (enc := enc) (C := Tryd.checked) false (laidWorld os) #[.int .u8 0, .int .i64 0] rfl (by kernel_rfl) (by kernel_rfl) (by kernel_rfl)
      (OpenSpec.preRow_of_cond 8 hx (by kernel_rfl) (fun k hk => by cases hk) (by kernel_rfl) (diffGreat_met os))) ?_
  intro W base args ds gs before hval hW _ _ _ hL _ _
  exact diffGreat_contract H enc W base args ds gs before hval hW hL

theorem diffGreat_said : Rows.DiffGreatSaid :=
  OpenClaim.holds_of_cond 4 Tryd.f4 rfl rfl rfl rfl rfl rfl rfl ⟨rfl, rfl, rfl, rfl, rfl⟩ rfl rfl rfl rfl rfl (by kernel_rfl) Tryd.func4 (by kernel_rfl)
    (of_decide_eq_true (by kernel_rfl)) (by unfold Func.isWrapper; first | (rw [if_pos (by decide +kernel)]; kernel_rfl) | (rw [if_neg (by decide +kernel)]; exact ⟨rfl, rfl⟩))
    (fun os started H enc _ F => by rw [OpenClaim.pre_eq_preRow]; exact diffGreat_lifted os started H enc F)

theorem diffGreat_plain (f : FuncId) (fn : Func) (hf : Tryd.pinned.checked.prog.funcNamed "galley/galleylaw19.DiffGreat" = some f) (hfn : Tryd.pinned.checked.prog.funcs[f]? = some fn) :
    false = Tryd.pinned.checked.prog.looks [] ∧ ∀ (j : Nat) t, fn.params[j]? = some t → Tryd.pinned.checked.prog.wantsStandIn t = false := by
  obtain rfl : f = 4 := Option.some.inj ((show Tryd.prog.funcNamed "galley/galleylaw19.DiffGreat" = some 4 by kernel_rfl).symm.trans hf) |>.symm
  obtain rfl : fn = Tryd.f4 := (Option.some.inj (Tryd.func4.symm.trans hfn)).symm
  refine ⟨by kernel_rfl, fun j t ht => ?_⟩
  rw [Tryd.params4] at ht
  have hm := Array.mem_of_getElem? ht
  simp only [List.mem_toArray, List.mem_cons, List.not_mem_nil, or_false] at hm
  rcases hm with rfl | rfl
  · exact (show Tryd.prog.wantsStandIn 5 = false by kernel_rfl)
  · exact (show Tryd.prog.wantsStandIn 3 = false by kernel_rfl)

/-- the card -/
theorem diffGreat_card : Rows.DiffGreatCardSaid :=
  Claim7.holds_tied_plain_at .later [] _ _ _ _ diffGreat_said (fun _ h => by cases h) (by kernel_rfl) (fun _ h => by cases h) diffGreat_row_tie rfl ⟨rfl, rfl⟩ (by kernel_rfl) rfl diffGreat_plain (by kernel_rfl)

#print axioms diffGreat_card
end Go.Proofs.YtkdnanlgkedjgaaDoor
end
