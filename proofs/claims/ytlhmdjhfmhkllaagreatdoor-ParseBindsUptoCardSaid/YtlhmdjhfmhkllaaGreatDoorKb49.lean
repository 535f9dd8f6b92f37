/-
  Texts joined.
-/
import Derived.Deep.DeepHandedRow
import Derived.Deep.DeepWitnessRowRef
import Derived.LaidHandle
import Derived.LaidMore
import Derived.OpenShut
import Derived.ProofKit
import Derived.Stop.LaidErr
import Derived.Test.YtlhmdjhfmhkllaaGreatDoorCards
import Derived.Test.YtlhmdjhfmhkllaaGreatDoorTie
import Derived.Test.YtlhmdjhfmhkllaaGreatDoorKb48
namespace Go.Proofs.YtlhmdjhfmhkllaaGreatDoor
open Go.ChangeShapes Go.WideShapes Go.ChangeAt Go.RowKit
open Go.ChangeMaps (open_string shut_string)
theorem own : ownKnob Tryz.prog.godebug = none := by kernel_rfl
theorem laidOut : laidOutB Tryz.prog = true := by kernel_rfl
theorem laid_iface {P : Program} {n nm : String} {d : DataW Unit} {r : List (String × DataW Unit)} {W : World} {g : Nat} {ti : TypeId} {ms : Array (String × TypeId)}
    (h : laidMet P ((n, .iface nm d) :: r) W) (hg : P.globalNamed n = some g) (ht : (P.globals[g]?).map (·.type) = some ti) (hi : P.underlying ti = some (.interface ms)) :
    ∃ u x, W.cell? ⟨g, 0, none⟩ = some (.iface u x) := by
  obtain ⟨ps, ⟨g0, t0, cs0, f0, p0, q0, hg0, ht0, hv0, hd0, _, e0⟩, _, hrows⟩ := h; obtain rfl := Option.some.inj (hg.symm.trans hg0); obtain rfl := Option.some.inj (ht.symm.trans ht0); obtain ⟨_, u, x, hcs, _⟩ := iface_of_trod hi hd0; have := World.var?_cell hg0 hv0 0; obtain ⟨l0⟩ := cs0; have hcs : l0 = [.iface u x] := hcs; subst hcs; exact ⟨u, x, by simpa using this⟩
theorem tab_head {rest : List (String × DataW Unit)} {W : World} (h : laidMet Tryz.prog (("internal/strconv.uint64pow10", Rows.laid_internal_strconv_uint64pow10) :: rest) W) : Tab W :=
  Lib.tabIs_of_head (g := 0) (t := 179) (e := 161) (n := 20) (by kernel_rfl) (by kernel_rfl) (by kernel_rfl) (by kernel_rfl) (by kernel_rfl) (by kernel_rfl) h
end Go.Proofs.YtlhmdjhfmhkllaaGreatDoor
