import Derived.Test.YtiholfmmphcbeaaGreatDoorKm14
import Derived.Test.YtiholfmmphcbeaaGreatDoorKm18
namespace Go.Proofs.YtiholfmmphcbeaaGreatDoor
open _root_.Go.Proofs.Tryz
open Go.RowKit
theorem cF.keep {B : Nat} {w w' : World} {v : Value} {l : List Tx} (h : cF B w v l) (hk : ∀ g o, v.ownBlock = some g -> w.heap[g]? = some o -> w'.heap[g]? = some o) : cF B w' v l := by
 obtain ⟨⟨h1, h2⟩, h3⟩ := h; refine ⟨⟨h1, ?_⟩, h3⟩; rcases h2 with h2 | ⟨g, cap, cur, rfl, hg, hh, hr⟩
 . exact .inl h2
 . exact .inr ⟨g, cap, cur, rfl, hg, hk g _ rfl hh, hr⟩
theorem cF.block {B : Nat} {w : World} {v : Value} {l : List Tx} (h : cF B w v l) {g : Nat} (hg : v.ownBlock = some g) : B <= g /\ ∃ cur, w.heap[g]? = some (.cells cur 9 (0, 0)) := by
 rcases h.1.2 with ⟨rfl, _⟩ | ⟨g', cap, cur, rfl, hb, hh, _⟩
 . simp [Value.ownBlock] at hg
 . obtain rfl : g' = g := by simpa [Value.ownBlock] using hg
   exact ⟨hb, cur, hh⟩
theorem zeroS (w : World) : (zeroValue 136).run prog w = .ok (.agg #[]) w := by kernel_rfl
theorem bc {w : World} {N : Nat} {cs : Array Value} {T0 : TypeId} (h : w.heap[N]? = some (.cells cs T0 (0, 0))) (j : Nat) : w.frozen? ⟨N, j, none⟩ = false := by simp [World.frozen?, h]
end Go.Proofs.YtiholfmmphcbeaaGreatDoor
