/-
  sugar: what comes of an expression of which some parts are replaced; of one that is sampled.
-/
import Derived.Test.YtaimagfdjbedeaaGreatDoorTreeSpec
namespace Go.Proofs.YtaimagfdjbedeaaGreatDoor

mutual
/-- an expression in which r has taken the place of what it replaces -/
def rebQ (r : Ex → Option Ex) : Ex → Ex
  | .mk op nm n cs ks => match r (.mk op nm n cs ks) with
    | some y => y
    | none => .mk op nm n cs (rebL r ks)
def rebL (r : Ex → Option Ex) : List Ex → List Ex
  | [] => []
  | k :: l => rebQ r k :: rebL r l
end
theorem rebL_map (r : Ex → Option Ex) : ∀ l, rebL r l = l.map (rebQ r)
  | [] => by rw [rebL]; rfl
  | k :: l => by rw [rebL, rebL_map r l]; rfl
theorem rebQ_none {r : Ex → Option Ex} {op n : Int} {nm : Tx} {cs : List Tx} {ks : List Ex} (h : r (.mk op nm n cs ks) = none) : rebQ r (.mk op nm n cs ks) = .mk op nm n cs (ks.map (rebQ r)) := by rw [rebQ, h, rebL_map]
theorem rebQ_some {r : Ex → Option Ex} {x y : Ex} (h : r x = some y) : rebQ r x = y := by cases x; rw [rebQ, h]
mutual
theorem reb_copy : ∀ x : Ex, rebQ (fun _ => none) x = x
  | .mk op nm n cs ks => by rw [rebQ, reb_copyL ks]
theorem reb_copyL : ∀ l : List Ex, rebL (fun _ => none) l = l
  | [] => by rw [rebL]
  | k :: l => by rw [rebL, reb_copy k, reb_copyL l]
end
/-- what a variable is sampled to -/
def sampR (x con : Tx) : Ex → Option Ex
  | .mk op nm n cs ks => if op = 4 then some (.mk 11 x 0 [con] [.mk op nm n cs ks]) else none
def sampQ (x con : Tx) (e : Ex) : Ex := rebQ (sampR x con) e
end Go.Proofs.YtaimagfdjbedeaaGreatDoor
