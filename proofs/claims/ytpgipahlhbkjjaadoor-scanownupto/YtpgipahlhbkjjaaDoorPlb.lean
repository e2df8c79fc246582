/- ScanPlays: told, of the law. -/
import Derived.Test.YtpgipahlhbkjjaaDoorRs5
namespace Go.Proofs.YtpgipahlhbkjjaaDoor
open Go.ChangeShapes Go.WideShapes Go.ChangeAt Go.RowKit

theorem quiet_more {P : Program} {f : FuncId} {args : Array Value} {w : World} {n : Nat} {v : Value}
    (h : Calls P f args (w.drewN n) fun e w' => e = .returned v ∧ ∃ k, w' = (w.drewN n).drewN k) : Calls P f args (w.drewN n) fun e w'' => e = .returned v ∧ ∃ m, w'' = w.drewN m :=
  h.mono fun _ _ ⟨he, k, hm⟩ => ⟨he, n + k, by rw [hm]; simp [World.drewN, Nat.add_assoc]⟩

set_option maxRecDepth 100000 in
set_option maxHeartbeats 2000000 in
theorem told4_at (g : Nat) (h : List Int) (fed pl : Int) (aH : Option Addr) (cH : Nat) (a b : Option Addr) (c c' n : Nat) (ts : List Tri) (w : World) (hS : Sca w g h fed) (hH : Hel h) (hT : Tab w) (hB : IsB w aH cH h) (h0 : 0 ≤ fed) (h1 : fed ≤ 4611686018427387904) (hpl : pl = fed - (h.length : Int))
    (t1 : TrisAt w a ts) (t2 : TrisAt w b ts) (hm : ts.length ≤ 4194304) (hn : n = ts.length) :
    Calls Tryd.prog 7 #[.pointer (some ⟨g, 0, none⟩), .agg #[.slice aH h.length cH, .int .i64 pl], .slice a n c, .slice b n c'] w fun e w' => e = .returned (.bool true) ∧ Below w.heap.size w w' := by
  subst hn
  have HP : Hid (∀ W, Sca W g h fed → Calls Tryd.prog 14 #[.pointer (some ⟨g, 0, none⟩)] W fun e w' => e = .returned (.int .i64 pl) ∧ ∃ n, w' = W.drewN n) := hide (fun W hW => by rw [hpl]; exact Place_at g h fed W hW h0 h1)
  clear hpl
  have hz := hT.size
  have hgw := hS.lt
  have hb : Below w.heap.size w (w.alloc (.cells #[.slice aH h.length cH, .int .i64 pl] 28)) := (Below.refl _ _).alloc (Nat.le_refl _) _
  have hz1 : w.heap.size < (w.alloc (.cells #[.slice aH h.length cH, .int .i64 pl] 28)).heap.size := by simp
  obtain ⟨c0, c1, _, _⟩ := cells2 (alloc_get w (.cells #[.slice aH h.length cH, .int .i64 pl] 28))
  go_enter Tryd.func7, Tryd.ntmps7
  go_wp2_with fail
  generalize (w.alloc (.cells #[.slice aH h.length cH, .int .i64 pl] 28)) = w1 at *
  refine (Might_at g h fed w1 (hS.below hb hgw) hH (hT.below hb hz)).mono ?_
  rintro e w2 ⟨rfl, n2, rfl⟩
  dsimp only
  have hb2 : Below w.heap.size w (w1.drewN n2) := Below.drewN hb n2
  have hz2 : w.heap.size < (w1.drewN n2).heap.size := hz1
  have c02 : (w1.drewN n2).cell? ⟨w.heap.size, 0, none⟩ = some (.slice aH h.length cH) := c0
  have c12 : (w1.drewN n2).cell? ⟨w.heap.size, 1, none⟩ = some (.int .i64 pl) := c1
  generalize w1.drewN n2 = w2 at *
  go_wp2_with fail
  refine (RMight_at aH cH h pl w2 (hB.below hb2 (Nat.le_refl _)) hH).mono ?_
  rintro e w3 ⟨rfl, b3⟩
  dsimp only
  have hb3 : Below w.heap.size w w3 := hb2.trans (b3.mono hb2.size)
  have c03 := (b3.cell (p := ⟨w.heap.size, 0, none⟩) hz2).trans c02
  have c13 := (b3.cell (p := ⟨w.heap.size, 1, none⟩) hz2).trans c12
  have HS := hide (hS.below hb3 hgw)
  have HT1 := hide (t1.below hb3)
  have HT2 := hide (t2.below hb3)
  have HBB := hide hb3
  clear hS hT hB t1 t2 hb hb2 b3 hb3 c0 c1 c02 c12
  generalize (mightV h).1 = lo
  generalize (mightV h).2.1 = hi
  generalize (mightV h).2.2 = ok
  go_wp2_with fail
  go_quiet (first
    | (go_at_call 12; exact quiet_more (Same4_at a b c c' ts _ (show TrisAt (World.drewN w3 _) a ts from unhide HT1) (show TrisAt (World.drewN w3 _) b ts from unhide HT2) hm))
    | (go_at_call 13; exact Calls.quiet_of_same (Held_at g h fed _ (show Sca (World.drewN w3 _) g h fed from unhide HS)))
    | (go_at_call 14; exact quiet_more (unhide HP _ (show Sca (World.drewN w3 _) g h fed from unhide HS))))
  go_wp2_with fail
  go_ret
  exact ⟨rfl, Below.drewN (unhide HBB) _⟩
end Go.Proofs.YtpgipahlhbkjjaaDoor
