/- Layer 5: join. -/
import Derived.Test.YtdklfodccdmmlaaDoorWjo
import Derived.Deep.DeepCutAuto
namespace Go.Proofs.YtdklfodccdmmlaaDoor
open Go.ChangeShapes Go.WideShapes Go.ChangeAt Go.RowKit

def bothW (a b : We) : We := ⟨addZ a.z b.z (seamL a.t b.h), (a.h ++ b.h).take 3, tail3 (a.t ++ b.t)⟩
def joinL (a b : We) : We × Sz × Int :=
  if (validB a && validB b) = false then (zeroWe, ⟨0, 0, 0, 0⟩, 50)
  else if 268435456 < a.z.b + b.z.b then (zeroWe, ⟨0, 0, 0, 0⟩, 5)
  else if validB (bothW a b) = false then (zeroWe, ⟨0, 0, 0, 0⟩, 50) else (bothW a b, seamL a.t b.h, 0)
def joinV (x : We × Sz × Int) : Value := .tuple #[weV x.1, szV x.2.1, .int .i64 x.2.2]

theorem Jb.ret {w : World} {ga gb gr gz : Nat} {a b r : We} {z : Sz} {wx : World} (p : Jb w ga gb gr gz a b r z wx) : wx.cell? ⟨gr, 0, none⟩ = some (.int .i64 r.z.b) ∧ wx.cell? ⟨gr, 1, none⟩ = some (.int .i64 r.z.r) ∧ wx.cell? ⟨gr, 2, none⟩ = some (.int .i64 r.z.u) ∧ wx.cell? ⟨gr, 3, none⟩ = some (.int .i64 r.z.e) ∧ wx.cell? ⟨gr, 4, none⟩ = some (.string (strOfNums r.h)) ∧ wx.cell? ⟨gr, 5, none⟩ = some (.string (strOfNums r.t)) ∧ (∀ i, wx.frozen? ⟨gr, i, none⟩ = false) ∧
    wx.cell? ⟨gz, 0, none⟩ = some (.int .i64 z.b) ∧ wx.cell? ⟨gz, 1, none⟩ = some (.int .i64 z.r) ∧ wx.cell? ⟨gz, 2, none⟩ = some (.int .i64 z.u) ∧ wx.cell? ⟨gz, 3, none⟩ = some (.int .i64 z.e) ∧ ∀ i, wx.frozen? ⟨gz, i, none⟩ = false := by
  obtain ⟨c0, c1, c2, c3, c4, c5, f⟩ := cells6 p.xr
  obtain ⟨d0, d1, d2, d3, k⟩ := cells4 p.xz
  exact ⟨c0, c1, c2, c3, c4, c5, f, d0, d1, d2, d3, k⟩

theorem Jb.all {w : World} {ga gb gr gz : Nat} {a b r : We} {z : Sz} {W : World} (p : Jb w ga gb gr gz a b r z W) : W.cell? ⟨ga, 0, none⟩ = some (.int .i64 a.z.b) ∧ W.cell? ⟨ga, 1, none⟩ = some (.int .i64 a.z.r) ∧ W.cell? ⟨ga, 2, none⟩ = some (.int .i64 a.z.u) ∧ W.cell? ⟨ga, 3, none⟩ = some (.int .i64 a.z.e) ∧ W.cell? ⟨ga, 4, none⟩ = some (.string (strOfNums a.h)) ∧ W.cell? ⟨ga, 5, none⟩ = some (.string (strOfNums a.t)) ∧ W.cell? ⟨gb, 0, none⟩ = some (.int .i64 b.z.b) ∧ W.cell? ⟨gb, 1, none⟩ = some (.int .i64 b.z.r) ∧ W.cell? ⟨gb, 2, none⟩ = some (.int .i64 b.z.u) ∧ W.cell? ⟨gb, 3, none⟩ = some (.int .i64 b.z.e) ∧ W.cell? ⟨gb, 4, none⟩ = some (.string (strOfNums b.h)) ∧ W.cell? ⟨gb, 5, none⟩ = some (.string (strOfNums b.t)) ∧ W.cell? ⟨gz, 0, none⟩ = some (.int .i64 z.b) ∧ W.cell? ⟨gz, 1, none⟩ = some (.int .i64 z.r) ∧ W.cell? ⟨gz, 2, none⟩ = some (.int .i64 z.u) ∧ W.cell? ⟨gz, 3, none⟩ = some (.int .i64 z.e) := by
  obtain ⟨a0, a1, a2, a3, a4, a5, _⟩ := cells6 p.xa
  obtain ⟨b0, b1, b2, b3, b4, b5, _⟩ := cells6 p.xb
  obtain ⟨d0, d1, d2, d3, _⟩ := cells4 p.xz
  exact ⟨a0, a1, a2, a3, a4, a5, b0, b1, b2, b3, b4, b5, d0, d1, d2, d3⟩

end Go.Proofs.YtdklfodccdmmlaaDoor
