/- Layer 16: the law's play (written by wip/tools/rgs.py). -/
import Derived.Test.YtifpjdodignflaaRp42
import Derived.Test.YtifpjdodignflaaRp43
import Derived.Test.YtifpjdodignflaaRp44
import Derived.Test.YtifpjdodignflaaRp45

namespace Go.Proofs.Ytifpjdodignflaa
open Go.ChangeShapes Go.WideShapes Go.ChangeAt Go.RowKit
attribute [local go_sem] Oper.semAt_some

theorem play_at (g : Nat) (n : Int) (L : List Rg) (a : Option Addr) (c : Nat) (D : List Rg) (kd : Int) (x : Rg) (ad : Option Addr) (cd : Nat) (d : List Dop) (X : World) (h : StR X g n L a D) (ho : IsO X ad d) (hz : d = [] ∨ ∃ q, ad = some q) (hdl : d.length * 32 ≤ 140737488355328) (ht : ∀ o ∈ d, o.t.length ≤ 140737488355328) :
    Calls Try.prog 11 #[.pointer (some ⟨g, 0, none⟩), rsV n a D.length c, ocA kd x ad d.length cd] X (PlQ X) := by
  by_cases k0 : kd = 0
  · subst k0
    by_cases hr : refG n L x = 0
    · exact playSO_at g n L a c D x ad cd d X h ho hr
    · exact playSE_at g n L a c D x ad cd d X h ho hr
  by_cases k1 : kd = 1
  · subst k1
    cases hg : getG x.n L with
    | none => exact playDE_at g n L a c D x ad cd d X h ho hg
    | some m => exact playDO_at g n L a c D x ad cd d X h ho m hg
  by_cases k2 : kd = 2
  · subst k2
    cases hv : valB d with
    | false => exact playBV_at g n L a c D x ad cd d X h ho hz hdl ht hv
    | true =>
      by_cases hf : (frD d : Int) = n
      · exact playBO_at g n L a c D x ad cd d X h ho hz hdl ht hv hf
      · exact playBF_at g n L a c D x ad cd d X h ho hz hdl ht hv hf
  cases hg : getG x.n L with
  | none => exact playGN_at g n L a c D kd x ad cd d X h ho k0 k1 k2 hg
  | some m => exact playGS_at g n L a c D kd x ad cd d X h ho k0 k1 k2 m hg
end Go.Proofs.Ytifpjdodignflaa
