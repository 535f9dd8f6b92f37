import Derived.Test.YtccihplmmfmonaaGreatDoorKm13
import Derived.Test.YtccihplmmfmonaaGreatDoorKm33
namespace Go.Proofs.YtccihplmmfmonaaGreatDoor
open Go.RowKit
theorem tX (l : List aA) : ∀ (k : Int) (s : aK), (eC k s l).1 = 0 -> eC k s l = (0, 0, 0) := by
 induction l with
 | nil => intro k s _; rfl
 | cons n r ih =>
   intro k s h; cases hs : bF s n with
   | inr b => rw [nR hs] at h; cases h
   | inl s' => rw [lM hs] at h ⊢; exact ih _ _ h
theorem lY {made : Bool} {p : cy} (h : (dE made p).1 = 0) : dE made p = (0, 0, 0) /\ dN made p = 0 /\ ∃ s, eG 0 .new p.enums = .inl s /\ eC 0 s p.nodes = (0, 0, 0) := by
 by_cases h0 : dN made p = 0
 . cases he : eG 0 .new p.enums with
   | inr i => rw [qU h0 he] at h; cases h
   | inl s =>
     rw [oJ h0 he] at h ⊢; have := tX _ _ _ h; exact ⟨this, h0, s, rfl, this⟩
 . rw [te h0] at h; exact absurd h h0
theorem Bd {made : Bool} {p : cy} (h : dN made p = 0) : 1 <= p.nodes.length /\ p.nodes.length <= 16 := by
 have h1 := (jR h).1; unfold lK at h1; rw [Bool.and_eq_true] at h1; have h2 := cE h1.2; exact ⟨h2.1, h2.2.1⟩
def Fa (W : World) (e : Ending) (W' : World) : Prop := e = .returned (.bool true) /\ Below W.heap.size W W'
theorem vX (l : List bd) : ∀ (b : Int) (s : aK) (vars : List Tx) (s' : aK) (vars' : List Tx), vars.Nodup -> d7 b s vars l = .inl (s', vars') -> vars' = vars ++ l.flatMap aH /\ vars'.Nodup := by
 induction l with
 | nil => intro b s vars s' vars' hv h; cases h; exact ⟨by simp, hv⟩
 | cons i r ih =>
   intro b s vars s' vars' hv h; rw [f9] at h; split at h
   . rename_i hok; rw [da, Bool.and_eq_true] at hok; have hn := (kN _ _ hv).1 hok.1; obtain ⟨h1, h2⟩ := ih _ _ _ _ _ hn h; exact ⟨by rw [h1, List.flatMap_cons, List.append_assoc], h2⟩
   . cases h
theorem pG (s : dJ) (l : List bd) : ∀ b, gJ s b l = none -> ∀ i ∈ l, dT s i = true := by
 induction l with
 | nil => intro b _ i hi; cases hi
 | cons x r ih =>
   intro b h i hi; rw [lG] at h; split at h
   . rename_i hx; rcases List.mem_cons.1 hi with rfl | hi
     . exact hx
     . exact ih _ h i hi
   . cases h
theorem lI {s s' : aK} {n : aA} (h : bF s n = .inl s') : cN s n = true /\ ∃ s1 vars, d7 0 s n.ins n.items = .inl (s1, vars) /\ (n.outs.all (n.items.flatMap aH).contains) = true /\ gJ ⟨s1, n.funs, vars⟩ 0 n.items = none /\ s' = { s1 with nodes := s1.nodes ++ [(n.name, n)] } := by
 cases hh : cN s n
 . rw [r9 hh] at h; cases h
 . refine ⟨rfl, ?_⟩; cases hi : d7 0 s n.ins n.items with
   | inr b => rw [pO hh hi] at h; cases h
   | inl x =>
     obtain ⟨s1, vars⟩ := x; cases ho : n.outs.all (n.items.flatMap aH).contains
     . rw [r8 hh hi ho] at h; cases h
     . cases hu : gJ ⟨s1, n.funs, vars⟩ 0 n.items with
       | some b => rw [r6 hh hi ho hu] at h; cases h
       | none =>
         rw [zt hh hi ho hu] at h; cases h; exact ⟨s1, vars, rfl, rfl, hu, rfl⟩
theorem Eb {s : aK} {n : aA} (h : cN s n = true) : n.ins.Nodup := by
 unfold cN at h; simp only [Bool.and_eq_true] at h; have h1 := ss h.2.1; rw [kN _ _ List.nodup_nil] at h1; simpa using h1
structure E8 (n : aA) : Prop where
 nodup : (aD n).Nodup
 outs : ∀ o ∈ n.outs, o ∈ aD n /\ o ∉ n.ins
 var : ∀ i ∈ n.items, i.states = [] -> ∀ op nm m cs ks, i.eq.e = .mk op nm m cs ks -> op = 4 -> nm ∈ aD n
theorem Bs {s s' : aK} {n : aA} (h : bF s n = .inl s') : E8 n := by
 obtain ⟨hh, s1, vars, hi, ho, hu, _⟩ := lI h; obtain ⟨hv, hn⟩ := vX _ _ _ _ _ _ (Eb hh) hi; have hV : vars = aD n := hv; subst hV; refine ⟨hn, λ o hoo => ?_, λ i hit hst op nm m cs ks he hop => ?_⟩
 . have h1 := List.all_eq_true.1 ho o hoo; rw [List.contains_iff_mem] at h1; refine ⟨List.mem_append_right _ h1, λ h2 => ?_⟩; exact (List.nodup_append.1 hn).2.2 o h2 o h1 rfl
 . have h1 := pG _ _ _ hu i hit; rw [dT, if_pos hst, he, zp, Bool.and_eq_true] at h1; have h2 := h1.1; rw [bf, if_pos hop] at h2; exact List.contains_iff_mem.1 h2
theorem wG (i : bd) : (aH i).length <= iM i := by
 obtain ⟨⟨nm, e⟩, sts⟩ := i; cases sts with
 | nil =>
   have := yl nm; show nm.length <= _; simp only [iM, wEq, wL]; omega
 | cons z r =>
   have h1 := mP (f := QEq.names) (g := wEq) (l := z.eqs) (λ q _ => by have := yl q.names; simp only [wEq]; omega); show (z.eqs.flatMap QEq.names).length <= _; simp only [iM, wL, lE]; omega
theorem CI {p : cy} (hp : fD p <= 1048576) {n : aA} (hn : n ∈ p.nodes) : (aD n).length <= 2097152 := by
 have h1 := xd (f := jG) hn; have h2 := mP (f := aH) (g := iM) (l := n.items) (λ i _ => wG i); have h3 := yl n.ins; unfold fD at hp; unfold aD; rw [List.length_append]; simp only [jG] at h1; omega
theorem yg {l : List Tx} (h : l.Nodup) {i : Nat} {x : Tx} (hx : l[i]? = some x) : (l.take i).contains x = false := by
 rw [<- Bool.not_eq_true, List.contains_iff_mem]; intro hm; obtain ⟨j, hj⟩ := List.getElem?_of_mem hm; rw [List.getElem?_take] at hj; split at hj
 . rename_i hji; have h1 := (List.getElem?_inj (List.getElem?_eq_some_iff.1 hj).1 h).1 (hj.trans hx.symm); omega
 . cases hj
end Go.Proofs.YtccihplmmfmonaaGreatDoor
