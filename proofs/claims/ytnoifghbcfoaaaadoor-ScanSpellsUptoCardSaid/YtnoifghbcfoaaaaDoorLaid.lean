/-
  What the listed variables give: the two sentinels hold errors.
-/
import Derived.Test.YtnoifghbcfoaaaaDoorCards
import Derived.Test.YtnoifghbcfoaaaaDoorTie
import Derived.Test.YtnoifghbcfoaaaaDoorLives
import Derived.ProofKit
import Derived.OpenShut
import Derived.LaidMore
import Derived.LaidHandle
import Derived.Stop.LaidErr
import Derived.Deep.DeepHandedRow
import Derived.Deep.DeepWitnessRowRef
namespace Go.Proofs.YtnoifghbcfoaaaaDoor
open Go.ChangeShapes Go.WideShapes Go.ChangeAt Go.RowKit
open Go.ChangeMaps (open_string shut_string)

theorem own : ownKnob Tryd.prog.godebug = none := by kernel_rfl
theorem laidOut : laidOutB Tryd.prog = true := by kernel_rfl

theorem laid_iface {P : Program} {n nm : String} {d : DataW Unit} {r : List (String × DataW Unit)} {W : World} {g : Nat} {ti : TypeId} {ms : Array (String × TypeId)}
    (h : laidMet P ((n, .iface nm d) :: r) W) (hg : P.globalNamed n = some g) (ht : (P.globals[g]?).map (·.type) = some ti) (hi : P.underlying ti = some (.interface ms)) :
    ∃ u x, W.cell? ⟨g, 0, none⟩ = some (.iface u x) := by
  obtain ⟨ps, ⟨g0, t0, cs0, f0, p0, q0, hg0, ht0, hv0, hd0, _, e0⟩, _, hrows⟩ := h
  obtain rfl := Option.some.inj (hg.symm.trans hg0)
  obtain rfl := Option.some.inj (ht.symm.trans ht0)
  obtain ⟨_, u, x, hcs, _⟩ := iface_of_trod hi hd0
  have := World.var?_cell hg0 hv0 0
  obtain ⟨l0⟩ := cs0
  have hcs : l0 = [.iface u x] := hcs
  subst hcs
  exact ⟨u, x, by simpa using this⟩

theorem errs_of_laid {W : World} (h : laidMetH Tryd.prog Rows.scanAloneRow.laid W) : Errs W := by
  have h : laidMet Tryd.prog Rows.scanAloneRow.laid W := h
  exact ⟨laid_iface h.tail.tail.tail.tail (by kernel_rfl) (by kernel_rfl) Tryd.underlying55, laid_iface h.tail.tail.tail (by kernel_rfl) (by kernel_rfl) Tryd.underlying55⟩
end Go.Proofs.YtnoifghbcfoaaaaDoor
