/-
  What the row says of the program, part by part.
-/
import Derived.Test.YtaimagfdjbedeabGreatDoorSxLaid
import Derived.Test.YtaimagfdjbedeabGreatDoorStNil
import Derived.Carry
namespace Go.Proofs.YtaimagfdjbedeabGreatDoor.streamsNil
open Go.ChangeShapes Go.WideShapes Go.ChangeAt Go.RowKit
open Go.ChangeMaps (open_string shut_string)

set_option maxRecDepth 100000
theorem band {a b : Bool} (h : a = true) (k : b = true) : (a && b) = true := by rw [h, k]; rfl
theorem joined_mk {P : Program} {f : FuncId} {fn : Func} {s : ChangeSpec} {c : OpenClaim} (h0 : (c.wf (OpenSpec.ofChange s)) = true) (h1 : (laidOutB P) = true) (h2 : (mapsRowed P) = true) (h3 : (fn.params.all (P.readableRec ·)) = true) (h4 : (namedTie P c.named s.vars) = true) (h5 : ((c.stops == [])) = true) (h6 : ((P.stops == [])) = true) (h7 : ((c.knobs == [])) = true) (h8 : ((P.stopKnobs == [])) = true) (h9 : ((c.inPlace == P.inPlace f)) = true) (h10 : ((c.unfollowed == P.unfollowed f)) = true) (h11 : ((c.recurses == P.recurses f)) = true) (h12 : ((c.named == P.varsNamed f)) = true) (h13 : ((c.maps == (fn.params.toList ++ s.plain.varTypes P).any (P.mapsRec ·))) = true) (h14 : ((c.ifaces == (fn.params.toList ++ s.plain.varTypes P).any (P.ifacesRec ·))) = true) (h15 : ((c.mapsOut == P.mapsAmong fn.resultTypes.toList)) = true) (h16 : ((c.loops == (fn.params.toList ++ s.plain.varTypes P).any (P.loopsFrom ·))) = true) (h17 : ((c.wideKeys == (fn.params.toList ++ s.plain.varTypes P ++ fn.resultTypes.toList).any (P.wideKeysFrom ·))) = true) (h18 : (s.vars.all (P.varReadable ·)) = true) (h19 : (fn.resultTypes.all (fun t => P.readableRec t && decide (t < P.types.size))) = true) (h20 : ((c.ifacesOut == fn.resultTypes.toList.any (P.ifacesRec ·))) = true) (h21 : ((c.loopsOut == fn.resultTypes.toList.any (P.loopsFrom ·))) = true) (h22 : ((c.plainKeys == P.plainKeys)) = true) (h23 : (c.shortTexts.isNone) = true) (h24 : (P.stopsHeard) = true) (h25 : (P.mayEnter) = true) (h26 : ((c.lifted == P.liftsFinal)) = true) (h27 : ((P.make == some c.make)) = true) (h28 : ((c.kinds == (if c.domain.isEmpty then [] else fn.params.toList.map fun t => match P.underlying t with | some (.int k) => some k | _ => none))) = true) (h29 : ((c.pinned == c.pinnedBy)) = true) (h30 : ((c.veiled == (fn.params.toList ++ s.plain.varTypes P ++ fn.resultTypes.toList).any (P.veiledRec ·))) = true) (h31 : (c.veiledFits P fn.params.toList (fn.params.toList ++ s.plain.varTypes P ++ fn.resultTypes.toList)) = true) : joinedFacts P f fn s c = true := by
  unfold joinedFacts
  exact (band (band (band (band (band (band (band (band (band (band (band (band (band (band (band (band (band (band (band (band (band (band (band (band (band (band (band (band (band (band (band h0 h1) h2) h3) h4) h5) h6) h7) h8) h9) h10) h11) h12) h13) h14) h15) h16) h17) h18) h19) h20) h21) h22) h23) h24) h25) h26) h27) h28) h29) h30) h31)
theorem leaf0 : (Rows.streamsNilRow.wf (OpenSpec.ofChange (OpenSpec.ofChange Rows.streamsNilSpec).bare)) = true := by kernel_rfl
theorem leaf1 : (laidOutB Tryz.pinned.checked.prog) = true := by kernel_rfl
theorem leaf2 : (mapsRowed Tryz.pinned.checked.prog) = true := by kernel_rfl
theorem leaf3 : (Tryz.f3.params.all (Tryz.pinned.checked.prog.readableRec ·)) = true := by kernel_rfl
theorem leaf4 : (namedTie Tryz.pinned.checked.prog Rows.streamsNilRow.named (OpenSpec.ofChange Rows.streamsNilSpec).bare.vars) = true := by kernel_rfl
theorem leaf5 : ((Rows.streamsNilRow.stops == [])) = true := by kernel_rfl
theorem leaf6 : ((Tryz.pinned.checked.prog.stops == [])) = true := by kernel_rfl
theorem leaf7 : ((Rows.streamsNilRow.knobs == [])) = true := by kernel_rfl
theorem leaf8 : ((Tryz.pinned.checked.prog.stopKnobs == [])) = true := by kernel_rfl
theorem leaf9 : ((Rows.streamsNilRow.inPlace == Tryz.pinned.checked.prog.inPlace 3)) = true := by kernel_rfl
theorem leaf10 : ((Rows.streamsNilRow.unfollowed == Tryz.pinned.checked.prog.unfollowed 3)) = true := by kernel_rfl
theorem leaf11 : ((Rows.streamsNilRow.recurses == Tryz.pinned.checked.prog.recurses 3)) = true := by kernel_rfl
theorem leaf12 : ((Rows.streamsNilRow.named == Tryz.pinned.checked.prog.varsNamed 3)) = true := by kernel_rfl
theorem leaf13 : ((Rows.streamsNilRow.maps == (Tryz.f3.params.toList ++ (OpenSpec.ofChange Rows.streamsNilSpec).bare.plain.varTypes Tryz.pinned.checked.prog).any (Tryz.pinned.checked.prog.mapsRec ·))) = true := by kernel_rfl
theorem leaf14 : ((Rows.streamsNilRow.ifaces == (Tryz.f3.params.toList ++ (OpenSpec.ofChange Rows.streamsNilSpec).bare.plain.varTypes Tryz.pinned.checked.prog).any (Tryz.pinned.checked.prog.ifacesRec ·))) = true := by kernel_rfl
theorem leaf15 : ((Rows.streamsNilRow.mapsOut == Tryz.pinned.checked.prog.mapsAmong Tryz.f3.resultTypes.toList)) = true := by kernel_rfl
theorem leaf16 : ((Rows.streamsNilRow.loops == (Tryz.f3.params.toList ++ (OpenSpec.ofChange Rows.streamsNilSpec).bare.plain.varTypes Tryz.pinned.checked.prog).any (Tryz.pinned.checked.prog.loopsFrom ·))) = true := by kernel_rfl
theorem leaf17 : ((Rows.streamsNilRow.wideKeys == (Tryz.f3.params.toList ++ (OpenSpec.ofChange Rows.streamsNilSpec).bare.plain.varTypes Tryz.pinned.checked.prog ++ Tryz.f3.resultTypes.toList).any (Tryz.pinned.checked.prog.wideKeysFrom ·))) = true := by kernel_rfl
theorem leaf18 : ((OpenSpec.ofChange Rows.streamsNilSpec).bare.vars.all (Tryz.pinned.checked.prog.varReadable ·)) = true := by kernel_rfl
theorem leaf19 : (Tryz.f3.resultTypes.all (fun t => Tryz.pinned.checked.prog.readableRec t && decide (t < Tryz.pinned.checked.prog.types.size))) = true := by kernel_rfl
theorem leaf20 : ((Rows.streamsNilRow.ifacesOut == Tryz.f3.resultTypes.toList.any (Tryz.pinned.checked.prog.ifacesRec ·))) = true := by kernel_rfl
theorem leaf21 : ((Rows.streamsNilRow.loopsOut == Tryz.f3.resultTypes.toList.any (Tryz.pinned.checked.prog.loopsFrom ·))) = true := by kernel_rfl
theorem leaf22 : ((Rows.streamsNilRow.plainKeys == Tryz.pinned.checked.prog.plainKeys)) = true := by kernel_rfl
theorem leaf23 : (Rows.streamsNilRow.shortTexts.isNone) = true := by kernel_rfl
theorem leaf24 : (Tryz.pinned.checked.prog.stopsHeard) = true := by kernel_rfl
theorem leaf25 : (Tryz.pinned.checked.prog.mayEnter) = true := by kernel_rfl
theorem leaf26 : ((Rows.streamsNilRow.lifted == Tryz.pinned.checked.prog.liftsFinal)) = true := by kernel_rfl
theorem leaf27 : ((Tryz.pinned.checked.prog.make == some Rows.streamsNilRow.make)) = true := by kernel_rfl
theorem leaf28 : ((Rows.streamsNilRow.kinds == (if Rows.streamsNilRow.domain.isEmpty then [] else Tryz.f3.params.toList.map fun t => match Tryz.pinned.checked.prog.underlying t with | some (.int k) => some k | _ => none))) = true := by kernel_rfl
theorem leaf29 : ((Rows.streamsNilRow.pinned == Rows.streamsNilRow.pinnedBy)) = true := by kernel_rfl
theorem leaf30 : ((Rows.streamsNilRow.veiled == (Tryz.f3.params.toList ++ (OpenSpec.ofChange Rows.streamsNilSpec).bare.plain.varTypes Tryz.pinned.checked.prog ++ Tryz.f3.resultTypes.toList).any (Tryz.pinned.checked.prog.veiledRec ·))) = true := by kernel_rfl
theorem leaf31 : (Rows.streamsNilRow.veiledFits Tryz.pinned.checked.prog Tryz.f3.params.toList (Tryz.f3.params.toList ++ (OpenSpec.ofChange Rows.streamsNilSpec).bare.plain.varTypes Tryz.pinned.checked.prog ++ Tryz.f3.resultTypes.toList)) = true := by kernel_rfl
theorem closed : joinedFacts Tryz.pinned.checked.prog 3 Tryz.f3 (OpenSpec.ofChange Rows.streamsNilSpec).bare Rows.streamsNilRow = true := joined_mk leaf0 leaf1 leaf2 leaf3 leaf4 leaf5 leaf6 leaf7 leaf8 leaf9 leaf10 leaf11 leaf12 leaf13 leaf14 leaf15 leaf16 leaf17 leaf18 leaf19 leaf20 leaf21 leaf22 leaf23 leaf24 leaf25 leaf26 leaf27 leaf28 leaf29 leaf30 leaf31
end Go.Proofs.YtaimagfdjbedeabGreatDoor.streamsNil
