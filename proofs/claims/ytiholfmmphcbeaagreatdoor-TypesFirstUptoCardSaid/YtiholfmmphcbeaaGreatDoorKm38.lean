import Derived.Laws.MakeOwn
import Derived.Laws.OwnMore
import Derived.Laws.Rows
import Derived.Maps.AppendAt
import Derived.Test.YtiholfmmphcbeaaGreatDoorKm08
import Derived.Test.YtiholfmmphcbeaaGreatDoorKm37
namespace Go.Proofs.YtiholfmmphcbeaaGreatDoor
open _root_.Go.Proofs.Tryz
open Go.RowKit
def DE (z : Int) : Value := .int .i64 z
def cy (B : Nat) (w : World) (v : Value) (l : List Int) : Prop := w.ownsRow B 3 1 v l.length (l.map DE)
theorem cy.nil (B : Nat) (w : World) : cy B w (.slice none 0 0) [] := ⟨rfl, .inl ⟨rfl, rfl⟩⟩
theorem jQ {w w' : World} {B : Nat} {e : TypeId} {size n : Nat} {v : Value} {xs : List Value} (h : w.ownsRow B e size v n xs) (hk : ∀ g o, v.ownBlock = some g -> w.heap[g]? = some o -> w'.heap[g]? = some o) : w'.ownsRow B e size v n xs := by
 obtain ⟨h1, h2⟩ := h; refine ⟨h1, ?_⟩; rcases h2 with h2 | ⟨g, cap, cur, rfl, hg, hh, hr⟩
 . exact .inl h2
 . exact .inr ⟨g, cap, cur, rfl, hg, hk g _ rfl hh, hr⟩
theorem et {w : World} {B : Nat} {e : TypeId} {size n : Nat} {v : Value} {xs : List Value} (h : w.ownsRow B e size v n xs) {g : Nat} (hg : v.ownBlock = some g) : B <= g /\ g < w.heap.size /\ ∃ cur, w.heap[g]? = some (.cells cur e (0, 0)) := by
 rcases h.2 with ⟨rfl, _⟩ | ⟨g', cap, cur, rfl, hb, hh, _⟩
 . simp [Value.ownBlock] at hg
 . obtain rfl : g' = g := by simpa [Value.ownBlock] using hg
   exact ⟨hb, ab hh, cur, hh⟩
theorem cy.under {B : Nat} {w w' : World} {v : Value} {l : List Int} (h : cy B w v l) (hb : Below w.heap.size w w') : cy B w' v l := nE h hb
theorem cy.mono {B B' : Nat} {w : World} {v : Value} {l : List Int} (h : cy B w v l) (hB : B' <= B) : cy B' w v l := pS h hB
theorem cy.shape {B : Nat} {w : World} {v : Value} {l : List Int} (h : cy B w v l) : ∃ A n c, v = .slice A n c /\ n = l.length := by
 rcases h.2 with ⟨rfl, h0⟩ | ⟨g, cap, cur, rfl, _⟩
 . exact ⟨_, _, _, rfl, h0.symm⟩
 . exact ⟨_, _, _, rfl, rfl⟩
theorem cy.at_ {B : Nat} {w : World} {v : Value} {l : List Int} (h : cy B w v l) (h0 : 0 < l.length) : ∃ g c, v = .slice (some ⟨g, 0, none⟩) l.length c /\ B <= g /\ g < w.heap.size /\ l.length <= c /\ c <= maxLen /\ (∀ k x, l[k]? = some x -> w.cell? ⟨g, k, none⟩ = some (.int .i64 x)) /\ ∀ k, w.frozen? ⟨g, k, none⟩ = false := by
 rcases h.2 with ⟨rfl, h1⟩ | ⟨g, cap, cur, rfl, hB, hh, hn, hm, _⟩
 . omega
 . have hc := World.ownsRow.cells h (g := g) rfl; refine ⟨g, cap, rfl, hB, ab hh, hn, hm, λ k x hx => ?_, λ k => bc hh k⟩; have := hc k (DE x) (by rw [List.getElem?_map, hx]; rfl); have hadd : (⟨g, 0, none⟩ : Addr).add k = ⟨g, k, none⟩ := (by unfold Addr.add; split <;> simp_all)
   rwa [hadd] at this
theorem DD : (prog.info? 3).map (λ i => (i.zero, i.size, i.bytes)) = some (some (.int .i64 0), 1, 8) := by kernel_rfl
structure Jt (B : Nat) (l : List Int) (v : Value) (W : World) (v' : Value) (w' : World) : Prop where
 own : cy B w' v' l
 grown : W.grownBy w' v.ownBlock
 loc : v'.ownBlock = v.ownBlock ∨ v'.ownBlock = some W.heap.size
theorem EX {o : Oper} {a : Act} {W : World} {K : Act -> World -> Prop} {Q : Exit -> Act -> World -> Prop} {B N : Nat} {v : Value} {l : List Int} {x : Int} (ts : TypeId) (hts : prog.underlying ts = some (.slice 3)) (s y : Operand)
  (ho : o.op = .call { callee := .builtin .append, args := #[s, y], argTypes := #[ts, ts] }) (hs : a.eval s = v) (hy : a.eval y = .slice (some ⟨N, 0, none⟩) 1 1)
  (hN : W.heap[N]? = some (.cells #[.int .i64 x] 3 (0, 0))) (hO : cy B W v l) (hl : l.length <= 4194304) (hB : B <= W.heap.size)
  (h : ∀ v' w', Jt B (l ++ [x]) v W v' w' -> K (a.put o.dst v') w') : Oper.wp prog o a W K Q := by
 obtain ⟨i0, hi, hz0, hz1, hz2⟩ := info_parts DD
 obtain ⟨v', w', hr, h2, h3, _, h5⟩ := run_append_own_at (P := prog) W B ts o.type 3 i0 (.int .i64 0) 1 8 hts hi hz0 hz1 hz2 rfl zD v l.length _ hO ⟨N, 0, none⟩ 1 1 [DE x] (by simp) (λ j u hj => by
  have hadd : (⟨N, 0, none⟩ : Addr).add j = ⟨N, j, none⟩ := (by unfold Addr.add; split <;> simp_all)
  rw [hadd, cell_of_row _ _ _ _ _ _ hN]; simpa [DE] using hj) (λ u hu => by simp at hu; subst hu; rfl) (by unfold maxLen; omega) zO hB
 unfold Oper.wp execOp; simp only [ho, resolve, invoke, builtin, Sem.run_bind, Sem.run_pure, Result.andThen_ok, List.map_toArray, List.map_cons, List.map_nil, hs, hy, hr]; exact h v' w' ⟨by unfold cy; simpa using h2, h3, h5⟩
theorem nh {ops : Array Oper} {rest : List Oper} {o : Oper} {a : Act} {W : World} {Q : Exit -> Act -> World -> Prop} {B N : Nat} {v : Value} {l : List Int} {x : Int} (ts : TypeId) (hts : prog.underlying ts = some (.slice 3)) (hg : o.guard = none) (s y : Operand)
  (ho : o.op = .call { callee := .builtin .append, args := #[s, y], argTypes := #[ts, ts] }) (hs : a.eval s = v) (hy : a.eval y = .slice (some ⟨N, 0, none⟩) 1 1)
  (hN : W.heap[N]? = some (.cells #[.int .i64 x] 3 (0, 0))) (hO : cy B W v l) (hl : l.length <= 4194304) (hB : B <= W.heap.size)
  (h : ∀ v' w', Jt B (l ++ [x]) v W v' w' -> wpList prog ops Q rest (a.put o.dst v') w') : wpList prog ops Q (o :: rest) a W :=
 wpList_plain hg λ _ hK' => EX ts hts s y ho hs hy hN hO hl hB λ v' w' ha => hK' _ _ (h v' w' ha)
end Go.Proofs.YtiholfmmphcbeaaGreatDoor
