import Derived.Test.YtiholfmmphcbeaaGreatDoorKm13
import Derived.Test.YtiholfmmphcbeaaGreatDoorKm33
namespace Go.Proofs.YtiholfmmphcbeaaGreatDoor
open Go.RowKit
theorem tN (l : List aA) : ∀ (k : Int) (s : aK), (dE k s l).1 = 0 -> dE k s l = (0, 0, 0) := by
 induction l with
 | nil => intro k s _; rfl
 | cons n r ih =>
   intro k s h; cases hs : bu s n with
   | inr b => rw [kX hs] at h; cases h
   | inl s' => rw [gT hs] at h ⊢; exact ih _ _ h
theorem fT {made : Bool} {p : cg} (h : (cO made p).1 = 0) : cO made p = (0, 0, 0) /\ dn made p = 0 /\ ∃ s, eG 0 .new p.enums = .inl s /\ dE 0 s p.nodes = (0, 0, 0) := by
 by_cases h0 : dn made p = 0
 . cases he : eG 0 .new p.enums with
   | inr i => rw [qL h0 he] at h; cases h
   | inl s =>
     rw [ke h0 he] at h ⊢; have := tN _ _ _ h; exact ⟨this, h0, s, rfl, this⟩
 . rw [sY h0] at h; exact absurd h h0
theorem vu (l : List aA) : ∀ (j : Nat) (k : Int) (s : aK), dE k s l = (0, 0, 0) -> dE k s (l.take j) = (0, 0, 0) := by
 induction l with
 | nil => intro j k s _; simp [dE]
 | cons n r ih =>
   intro j k s h; cases j with
   | zero => rfl
   | succ j =>
     cases hs : bu s n with
     | inr b => rw [kX hs] at h; cases h
     | inl s' =>
       rw [gT hs] at h; rw [List.take_succ_cons, gT hs]; exact ih j _ _ h
theorem nF {made : Bool} {p : cg} (h : dn made p = 0) : 1 <= p.nodes.length /\ p.nodes.length <= 16 := by
 have h1 := (iy h).1; unfold gR at h1; rw [Bool.and_eq_true] at h1; have h2 := cw h1.2; exact ⟨h2.1, h2.2.1⟩
theorem Gw {X : Type} {l : List X} {a b : Nat} {f : X -> Bool} (h1 : a <= l.length) (h2 : l.length <= b) (h3 : ∀ x ∈ l, f x = true) : fp l a b f = true := by
 unfold fp; rw [Bool.and_eq_true, Bool.and_eq_true, decide_eq_true_eq, decide_eq_true_eq, List.all_eq_true]; exact ⟨⟨h1, h2⟩, h3⟩
theorem AP {made : Bool} {p : cg} (h : dn made p = 0) {l : List aA} (h1 : 1 <= l.length) (h2 : l.length <= 16) (hs : ∀ n ∈ l, n ∈ p.nodes) : dn made ⟨p.enums, l⟩ = 0 := by
 obtain ⟨hp, hl⟩ := iy h; have hp' := hp; unfold gR at hp'; rw [Bool.and_eq_true] at hp'; have h3 : gR made ⟨p.enums, l⟩ = true := by
  unfold gR; rw [Bool.and_eq_true]; exact ⟨hp'.1, Gw h1 h2 (λ n hn => (cw hp'.2).2.2 n (hs n hn))⟩
 have h4 : l.any gu = false := by
  rw [List.any_eq_false] at hl ⊢; exact λ n hn => hl n (hs n hn)
 show (if gR made ⟨p.enums, l⟩ = true then (if l.any gu = true then (9 : Int) else 0) else 10) = 0; rw [if_pos h3, h4]; rfl
theorem DX {made : Bool} {p : cg} (h : (cO made p).1 = 0) {k : Nat} (hk : 1 <= k) : cO made ⟨p.enums, p.nodes.take k⟩ = (0, 0, 0) := by
 obtain ⟨_, h0, s, he, hn⟩ := fT h; obtain ⟨h1, h2⟩ := nF h0; have h3 := AP (l := p.nodes.take k) h0 (by rw [List.length_take]; omega) (by rw [List.length_take]; omega) (λ n hn => List.mem_of_mem_take hn); rw [ke (p := ⟨p.enums, p.nodes.take k⟩) h3 he]; exact vu _ _ _ _ hn
theorem ak.take {X : Type} {w : World} {R : List Value -> X -> Prop} {A : Option Addr} {c : Nat} {l : List X} (h : ak w R (.slice A l.length c) l) {k : Nat} (hk : k <= l.length) : ak w R (.slice A k c) (l.take k) := by
 obtain ⟨A', c', e, h1, h2, h3⟩ := h; injection e with e1 _ e3; subst e1 e3
 exact ⟨A, c, by rw [List.length_take, Nat.min_eq_left hk], by rw [List.length_take]; omega, h2, λ i x hx => h3 i x (by
  rw [List.getElem?_take] at hx; split at hx
  . exact hx
  . cases hx)⟩
def ri (W : World) (e : Ending) (W' : World) : Prop := e = .returned (.bool true) /\ Below W.heap.size W W'
theorem vM (l : List bf) : ∀ (b : Int) (s : aK) (vars : List Tx) (s' : aK) (vars' : List Tx), vars.Nodup -> ef b s vars l = .inl (s', vars') -> vars' = vars ++ l.flatMap aH /\ vars'.Nodup := by
 induction l with
 | nil => intro b s vars s' vars' hv h; cases h; exact ⟨by simp, hv⟩
 | cons i r ih =>
   intro b s vars s' vars' hv h; rw [gd] at h; split at h
   . rename_i hok; rw [de, Bool.and_eq_true] at hok; have hn := (kQ _ _ hv).1 hok.1; obtain ⟨h1, h2⟩ := ih _ _ _ _ _ hn h; exact ⟨by rw [h1, List.flatMap_cons, List.append_assoc], h2⟩
   . cases h
theorem pA (s : dM) (l : List bf) : ∀ b, gN s b l = none -> ∀ i ∈ l, dY s i = true := by
 induction l with
 | nil => intro b _ i hi; cases hi
 | cons x r ih =>
   intro b h i hi; rw [lI] at h; split at h
   . rename_i hx; rcases List.mem_cons.1 hi with rfl | hi
     . exact hx
     . exact ih _ h i hi
   . cases h
theorem lK {s s' : aK} {n : aA} (h : bu s n = .inl s') : cN s n = true /\ ∃ s1 vars, ef 0 s n.ins n.items = .inl (s1, vars) /\ (n.outs.all (n.items.flatMap aH).contains) = true /\ gN ⟨s1, n.funs, vars⟩ 0 n.items = none /\ s' = { s1 with nodes := s1.nodes ++ [(n.name, n)] } := by
 cases hh : cN s n
 . rw [rX hh] at h; cases h
 . refine ⟨rfl, ?_⟩; cases hi : ef 0 s n.ins n.items with
   | inr b => rw [pI hh hi] at h; cases h
   | inl x =>
     obtain ⟨s1, vars⟩ := x; cases ho : n.outs.all (n.items.flatMap aH).contains
     . rw [rW hh hi ho] at h; cases h
     . cases hu : gN ⟨s1, n.funs, vars⟩ 0 n.items with
       | some b => rw [rU hh hi ho hu] at h; cases h
       | none =>
         rw [zg hh hi ho hu] at h; cases h; exact ⟨s1, vars, rfl, rfl, hu, rfl⟩
theorem DP {s : aK} {n : aA} (h : cN s n = true) : n.ins.Nodup := by
 unfold cN at h; simp only [Bool.and_eq_true] at h; have h1 := sd h.2.1; rw [kQ _ _ List.nodup_nil] at h1; simpa using h1
structure EL (n : aA) : Prop where
 nodup : (aG n).Nodup
 outs : ∀ o ∈ n.outs, o ∈ aG n /\ o ∉ n.ins
 var : ∀ i ∈ n.items, i.states = [] -> ∀ op nm m cs ks, i.eq.e = .mk op nm m cs ks -> op = 4 -> nm ∈ aG n
theorem Bc {s s' : aK} {n : aA} (h : bu s n = .inl s') : EL n := by
 obtain ⟨hh, s1, vars, hi, ho, hu, _⟩ := lK h; obtain ⟨hv, hn⟩ := vM _ _ _ _ _ _ (DP hh) hi; have hV : vars = aG n := hv; subst hV; refine ⟨hn, λ o hoo => ?_, λ i hit hst op nm m cs ks he hop => ?_⟩
 . have h1 := List.all_eq_true.1 ho o hoo; rw [List.contains_iff_mem] at h1; refine ⟨List.mem_append_right _ h1, λ h2 => ?_⟩; exact (List.nodup_append.1 hn).2.2 o h2 o h1 rfl
 . have h1 := pA _ _ _ hu i hit; rw [dY, if_pos hst, he, za, Bool.and_eq_true] at h1; have h2 := h1.1; rw [bg, if_pos hop] at h2; exact List.contains_iff_mem.1 h2
theorem wk (i : bf) : (aH i).length <= iQ i := by
 obtain ⟨⟨nm, e⟩, sts⟩ := i; cases sts with
 | nil =>
   have := ya nm; show nm.length <= _; simp only [iQ, wEq, wL]; omega
 | cons z r =>
   have h1 := mM (f := QEq.names) (g := wEq) (l := z.eqs) (λ q _ => by have := ya q.names; simp only [wEq]; omega); show (z.eqs.flatMap QEq.names).length <= _; simp only [iQ, wL, lG]; omega
theorem Cs {p : cg} (hp : eZ p <= 1048576) {n : aA} (hn : n ∈ p.nodes) : (aG n).length <= 2097152 := by
 have h1 := wT (f := jz) hn; have h2 := mM (f := aH) (g := iQ) (l := n.items) (λ i _ => wk i); have h3 := ya n.ins; unfold eZ at hp; unfold aG; rw [List.length_append]; simp only [jz] at h1; omega
theorem xV {l : List Tx} (h : l.Nodup) {i : Nat} {x : Tx} (hx : l[i]? = some x) : (l.take i).contains x = false := by
 rw [<- Bool.not_eq_true, List.contains_iff_mem]; intro hm; obtain ⟨j, hj⟩ := List.getElem?_of_mem hm; rw [List.getElem?_take] at hj; split at hj
 . rename_i hji; have h1 := (List.getElem?_inj (List.getElem?_eq_some_iff.1 hj).1 h).1 (hj.trans hx.symm); omega
 . cases hj
end Go.Proofs.YtiholfmmphcbeaaGreatDoor
