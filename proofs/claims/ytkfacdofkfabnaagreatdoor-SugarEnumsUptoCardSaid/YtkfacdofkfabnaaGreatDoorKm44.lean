import Derived.Test.YtkfacdofkfabnaaGreatDoorKm22
import Derived.Test.YtkfacdofkfabnaaGreatDoorKm43
namespace Go.Proofs.YtkfacdofkfabnaaGreatDoor
theorem dS {X : Type} {l : List X} {a b : Nat} {f : X -> Bool} (h : gk l a b f = true) : a <= l.length /\ l.length <= b /\ ∀ x ∈ l, f x = true := by
 unfold gk at h; simp only [Bool.and_eq_true, decide_eq_true_eq, List.all_eq_true] at h; exact ⟨h.1.1, h.1.2, h.2⟩
theorem Jj {c : Prop} [Decidable c] {a b : Bool} (h : (if c then a else b) = true) : (c /\ a = true) ∨ (¬ c /\ b = true) := by
 by_cases hc : c
 . rw [if_pos hc] at h; exact .inl ⟨hc, h⟩
 . rw [if_neg hc] at h; exact .inr ⟨hc, h⟩
theorem Bq {made : Bool} {op : Int} {nm : Tx} {n : Int} {cs : List Tx} {ks : List Ex} (h : bO made op nm n cs ks = true) : cs.length <= 8 /\ ks.length <= 8 /\ (op = 13 -> ks.length <= cs.length) := by
 unfold bO at h; iterate 15
  rcases Jj h with ⟨o, h⟩ | ⟨_, h⟩
  . simp only [Bool.and_eq_true, decide_eq_true_eq, List.isEmpty_iff, beq_iff_eq] at h; first
     | (obtain ⟨⟨_, h1⟩, h2⟩ := h; subst h1 h2; exact ⟨by simp, by simp, λ _ => by simp⟩)
     | (obtain ⟨⟨_, h1⟩, h2⟩ := h; subst h1; exact ⟨by simp, by omega, λ _ => by omega⟩)
     | (obtain ⟨⟨_, h1⟩, h2⟩ := h; have h3 := (dS h1).2.1; exact ⟨by omega, by omega, λ _ => by omega⟩)
     | (obtain ⟨⟨_, h1⟩, h2, _⟩ := h; subst h1; exact ⟨by simp, by omega, λ _ => by omega⟩)
     | (obtain ⟨⟨_, h1⟩, h2, h4⟩ := h; have h3 := (dS h1).2.1; exact ⟨by omega, by omega, λ _ => by omega⟩)
 cases h
theorem lC {made : Bool} : ∀ x : Ex, ed made x = true -> dU x /\ fQ x := by
 intro x; induction x using Ex.ind with
 | h op nm n cs ks ih =>
   intro h; rw [ed, Bool.and_eq_true, jR, List.all_eq_true] at h; obtain ⟨h1, h2, h3⟩ := Bq h.1; have hk : ∀ l : List Ex, (∀ k ∈ l, dU k /\ fQ k) -> nj l /\ jC l := by
    intro l; induction l with
    | nil => intro _; rw [nj, jC]; exact ⟨trivial, trivial⟩
    | cons a r ihr =>
      intro hl; rw [nj, jC]; have h1 := hl a (by simp); have h2 := ihr λ k hk => hl k (by simp [hk]); exact ⟨⟨h1.1, h2.1⟩, h1.2, h2.2⟩
   have hK := hk ks λ k hk => ih k hk (h.2 k hk); rw [dU, fQ]; refine ⟨⟨by omega, by omega, hK.1⟩, ?_⟩; split
   . rename_i h13; exact h3 h13
   . exact hK.2
theorem nK {made : Bool} {q : QEq} (h : fi made q = true) : q.names ≠ [] /\ q.names.length <= 6 /\ dU q.e /\ fQ q.e := by
 unfold fi at h; rw [Bool.and_eq_true] at h; obtain ⟨h1, h2, _⟩ := dS h.1; exact ⟨λ e => by rw [e] at h1; simp at h1, h2, (lC _ h.2).1, (lC _ h.2).2⟩
theorem uG {made : Bool} {s : aM} (h : dM made s = true) : Fr s /\ s.eqs.length <= 24 := by
 unfold dM at h; simp only [Bool.and_eq_true] at h; obtain ⟨_, h1, h2⟩ := h; obtain ⟨_, a2, a3⟩ := dS h1; obtain ⟨_, b2, b3⟩ := dS h2; refine ⟨⟨by omega, by omega, λ q hq => (nK (a3 q hq)).1, λ q hq => (nK (a3 q hq)).2.2.1, λ y hy => ?_⟩, a2⟩; have := b3 y hy; unfold iP at this; rw [Bool.and_eq_true] at this; exact (lC _ this.2).1
theorem lF : ∀ (l : List QEq) (m own : List Tx), m.Nodup -> lp m l = some own -> own = m ++ l.flatMap QEq.names /\ own.Nodup /\ ∀ q ∈ l, q.names.length = 1
 | [], m, own, hm, h => by
   simp only [lp, Option.some.injEq] at h
   subst h
   exact ⟨by simp, hm, λ q hq => by cases hq⟩
 | q :: r, m, own, hm, h => by
   rw [lp] at h
   split at h
   . rename_i hq
     obtain ⟨h1, h2, h3⟩ := lF r _ _ ((rU _ _ hm).1 hq.2) h
     refine ⟨by rw [h1, List.flatMap_cons, List.append_assoc], h2, λ x hx => ?_⟩
     rcases List.mem_cons.1 hx with rfl | hx
     . exact hq.1
     . exact h3 x hx
   . cases h
theorem rQ : ∀ (a b : List Tx), a.Nodup -> (∀ x ∈ a, x ∈ b) -> a.length = b.length -> ∀ y ∈ b, y ∈ a
 | [], b, _, _, hl, y, hy => by
   have : b = [] := List.eq_nil_of_length_eq_zero (by simpa using hl.symm)
   rw [this] at hy
   cases hy
 | x :: r, b, hn, hs, hl, y, hy => by
   have hx := hs x (by simp)
   rw [List.nodup_cons] at hn
   by_cases e : y = x
   . rw [e]; simp
   . have h1 := rQ r (b.erase x) hn.2 (λ z hz => (List.mem_erase_of_ne (λ e2 => hn.1 (by rw [<- e2]; exact hz))).2 (hs z (by simp [hz]))) (by rw [List.length_erase_of_mem hx]; simp at hl; omega) y ((List.mem_erase_of_ne e).2 hy)
     exact List.mem_cons_of_mem _ h1
theorem uE {s : bc} {l : List aM} (h : cm s l = true) : ∀ q ∈ yP l, ∀ z ∈ l, ∃ r ∈ z.eqs, cz r = cz q := by
 unfold cm at h; simp only [Bool.and_eq_true, List.all_eq_true] at h; obtain ⟨_, _, h3⟩ := h; intro q hq z hz; cases hl : l with
 | nil => rw [hl] at hz; cases hz
 | cons z0 r =>
   have hz0 : z0 ∈ l := (by rw [hl]; simp); have e0 : yP l = z0.eqs := (by rw [hl]; rfl); have k0 := h3 z0 hz0; have k1 := h3 z hz; cases ho0 : dY z0 with
   | none => rw [ho0] at k0; cases k0
   | some own0 =>
     cases ho : dY z with
     | none => rw [ho] at k1; cases k1
     | some own =>
       rw [ho] at k1; have hb : ((l.head?.bind dY).getD []) = own0 := (by rw [hl]; simp [ho0]); simp only [hb, Bool.and_eq_true, fh, beq_iff_eq, List.all_eq_true] at k1; obtain ⟨a1, _, a3⟩ := lF _ _ _ List.nodup_nil ho0; obtain ⟨b1, b2, b3⟩ := lF _ _ _ List.nodup_nil ho; rw [e0] at hq; have hmem : cz q ∈ own0 := by
        rw [a1]; refine List.mem_append_right _ (List.mem_flatMap.2 ⟨q, hq, ?_⟩); have := a3 q hq; obtain ⟨x, hx⟩ := List.length_eq_one_iff.1 this; unfold cz; rw [hx]; simp
       have := rQ own own0 b2 (λ x hx => by have := k1.1.2 x hx; simpa using this) k1.1.1 _ hmem; rw [b1] at this; obtain ⟨r', hr, hx⟩ := List.mem_flatMap.1 (show cz q ∈ z.eqs.flatMap QEq.names by simpa using this); refine ⟨r', hr, ?_⟩; obtain ⟨x, hxx⟩ := List.length_eq_one_iff.1 (b3 r' hr); rw [hxx] at hx; rw [show cz r' = x by unfold cz; rw [hxx]; rfl]; exact (List.mem_singleton.1 hx).symm
theorem vS : ∀ (l : List a8) (b : Int) (s : bc) (vars : List Tx) (r : bc × List Tx), eJ b s vars l = .inl r -> ∀ i ∈ l, ∃ s' vars', dD s' vars' i = true
 | [], _, _, _, _, _, i, hi => by cases hi
 | x :: l, b, s, vars, r, h, i, hi => by
   rw [eJ] at h
   split at h
   . rename_i hx
     rcases List.mem_cons.1 hi with rfl | hi
     . exact ⟨_, _, hx⟩
     . exact vS l _ _ _ _ h i hi
   . cases h
theorem p6 : ∀ (l : List aY) (k : Int) (s : bc), eH k s l = (0, 0, 0) -> ∀ n ∈ l, ∃ s1 s2, b5 s1 n = .inl s2
 | [], _, _, _, n, hn => by cases hn
 | x :: l, k, s, h, n, hn => by
   cases hs : b5 s x with
   | inr b => rw [nJ hs] at h; cases h
   | inl s' =>
     rw [lH hs] at h
     rcases List.mem_cons.1 hn with rfl | hn
     . exact ⟨_, _, hs⟩
     . exact p6 l _ _ h n hn
theorem FW (k : Nat) (i : a8) (h : ∀ s ∈ i.states, s.eqs.length <= 24) : (lY k i).length <= 26 := by
 unfold lY; split
 . simp
 . simp only [gj, List.length_append, List.length_cons, List.length_map, List.length_nil]; unfold yP; cases hs : i.states with
   | nil => simp
   | cons a r => have := h a (by rw [hs]; simp); simp; omega
theorem zP : ∀ (l : List a8) (k : Nat), (∀ i ∈ l, ∀ s ∈ i.states, s.eqs.length <= 24) -> (bp k l).length <= 26 * l.length
 | [], _, _ => by simp [bp]
 | i :: r, k, h => by
   have h1 := FW k i (h i (by simp))
   have h2 := zP r (k + js i) λ x hx => h x (by simp [hx])
   rw [bp, List.length_append, List.length_cons]
   omega
theorem wO : ∀ l : List a8, b8 l <= l.length
 | [] => by simp [b8]
 | i :: r => by
   have := wO r
   have : js i <= 1 := by unfold js; split <;> omega
   rw [b8, List.length_cons]
   omega
theorem tZ : ∀ (l : List a8) (k : Nat), (bw k l).length = b8 l
 | [], _ => rfl
 | i :: r, k => by
   rw [bw, List.length_append, tZ r, b8]
   have : (nW k i).length = js i := by unfold nW js; split <;> rfl
   omega
theorem ph : ∀ (l : List aY) (k : Nat), (bJ k l).length = cM l
 | [], _ => rfl
 | n :: r, k => by rw [bJ, List.length_append, tZ, ph r, cM]
theorem wK : ∀ l : List aY, (∀ n ∈ l, n.items.length <= 24) -> cM l <= 24 * l.length
 | [], _ => by simp [cM]
 | n :: r, h => by
   have h1 := wK r λ x hx => h x (by simp [hx])
   have h2 := wO n.items
   have h3 := h n (by simp)
   rw [cM, List.length_cons]
   omega
theorem zN : ∀ (l : List a8) (k : Nat), ∀ i ∈ bp k l, i.states = []
 | [], _, i, hi => by simp [bp] at hi
 | x :: r, k, i, hi => by
   rw [bp] at hi
   rcases List.mem_append.1 hi with hi | hi
   . unfold lY at hi
     split at hi
     . simp at hi; subst hi; rfl
     . unfold gj at hi
       simp only [List.mem_append, List.mem_cons, List.mem_map, List.not_mem_nil, or_false] at hi
       rcases hi with (rfl | ⟨q, _, rfl⟩) | rfl <;> rfl
   . exact zN r _ i hi
theorem ym (l : List a8) (h : ∀ i ∈ l, i.states = []) : (l.flatMap fZ).length = l.length := by
 induction l with
 | nil => rfl
 | cons i r ih =>
   rw [List.flatMap_cons, List.length_append, ih λ x hx => h x (by simp [hx]), List.length_cons]; have : (fZ i).length = 1 := by unfold fZ; rw [h i (by simp)]; simp
   omega
theorem uv : ∀ (l : List aY) (k : Nat), ∀ x ∈ bz k l, ∃ n ∈ l, ∃ j, x = pD j n
 | [], _, x, hx => by simp [bz] at hx
 | n :: r, k, x, hx => by
   rw [bz] at hx
   rcases List.mem_cons.1 hx with rfl | hx
   . exact ⟨n, by simp, _, rfl⟩
   . obtain ⟨m, hm, j, e⟩ := uv r _ x hx
     exact ⟨m, by simp [hm], j, e⟩
theorem Da {p : cZ} (h : (br false p).1 = 0) : TrG p /\ ∀ x ∈ (i6 p).nodes, (fc x).length <= 1048576 := by
 obtain ⟨_, h0, s, _, hn⟩ := zi h; have hr : lD false p = true := by
  unfold dg at h0; split at h0
  . assumption
  . cases h0
 unfold lD at hr; rw [Bool.and_eq_true] at hr; obtain ⟨_, e2, e3⟩ := dS hr.1; obtain ⟨_, n2, n3⟩ := dS hr.2; replace e2 : p.enums.length <= 8 := (by simpa [eL] using e2); have hnode : ∀ n ∈ p.nodes, n.funs.length <= 6 /\ n.ins.length <= 6 /\ n.outs.length <= 6 /\ n.items.length <= 24 /\ ∀ i ∈ n.items, cK false i = true := by
  intro n hn; have h1 := n3 n hn; unfold e8 at h1; simp only [Bool.and_eq_true] at h1; obtain ⟨_, h2, h3, h4, h5⟩ := h1; refine ⟨(dS h2).2.1, (dS h3).2.1, (dS h4).2.1, ?_, (dS h5).2.2⟩; have := (dS h5).2.1; simpa [eI] using this
 have hstate : ∀ n ∈ p.nodes, ∀ i ∈ n.items, i.states ≠ [] -> i.states.length <= 8 /\ ∀ z ∈ i.states, dM false z = true := by
  intro n hn i hi hs; have h1 := (hnode n hn).2.2.2.2 i hi; unfold cK at h1; rw [if_neg hs] at h1; simp only [Bool.and_eq_true] at h1; exact ⟨(dS h1.2.2).2.1, (dS h1.2.2).2.2⟩
 have heqs : ∀ n ∈ p.nodes, ∀ i ∈ n.items, ∀ z ∈ i.states, z.eqs.length <= 24 := by
  intro n hn i hi z hz; exact (uG ((hstate n hn i hi λ e => by rw [e] at hz; cases hz).2 z hz)).2
 have hlen : ∀ n ∈ p.nodes, ∀ k, (bp k n.items).length <= 624 := by
  intro n hn k; have h1 := zP n.items k (heqs n hn); have h2 := (hnode n hn).2.2.2.1; omega
 have hc := wK p.nodes λ n hn => (hnode n hn).2.2.2.1; refine ⟨⟨by omega, by rw [List.length_append, ph]; omega, λ e he => ?_, by omega, by omega, λ n hn' => ?_⟩, λ x hx => ?_⟩
 . have h1 := e3 e he; unfold iQ at h1; rw [Bool.and_eq_true] at h1; have := (dS h1.2).2.1; omega
 . obtain ⟨a1, a2, a3, a4, a5⟩ := hnode n hn'; refine ⟨by omega, by omega, by omega, λ k => by have := hlen n hn' k; omega, λ i hi => ⟨λ hs => ?_, λ hs => ?_⟩⟩
   . have h1 := a5 i hi; unfold cK at h1; rw [if_pos hs] at h1; obtain ⟨_, b2, b3, b4⟩ := nK h1; exact ⟨by omega, b3, b4⟩
   . obtain ⟨c1, c2⟩ := hstate n hn' i hi hs; refine ⟨hs, by omega, λ z hz => (uG (c2 z hz)).1, ?_⟩; obtain ⟨s1, s2, hst⟩ := p6 _ _ _ hn n hn'; obtain ⟨_, s3, vars, hit, _⟩ := xD hst; obtain ⟨s', vars', hok⟩ := vS _ _ _ _ _ hit i hi; unfold dD at hok; rw [if_neg hs, Bool.and_eq_true] at hok; exact uE hok.2
 . obtain ⟨n, hn', j, rfl⟩ := uv _ _ x hx; have h1 := hlen n hn' j; have h2 := ym (bp j n.items) (zN _ _); unfold fc; show ((bp j n.items).flatMap fZ).length <= _; omega
theorem uI {X : Type} {l : List X} {i : Nat} {x : X} (h : l[i]? = some x) : ∃ r, l = l.take i ++ x :: r := by
 obtain ⟨hi, e⟩ := List.getElem?_eq_some_iff.1 h; refine ⟨l.drop (i + 1), ?_⟩; rw [<- e, <- List.drop_eq_getElem_cons hi, List.take_append_drop]
theorem AN {p : cZ} {i k : Nat} {n : aY} {x : a8} (hn : p.nodes[i]? = some n) (hx : n.items[k]? = some x) (hs : x.states ≠ []) :
  (p.enums ++ bJ 0 p.nodes)[p.enums.length + cM (p.nodes.take i) + b8 (n.items.take k)]? = some (kq (cM (p.nodes.take i) + b8 (n.items.take k)) x.states) := by
 obtain ⟨r, hr⟩ := uI hn; obtain ⟨q, hq⟩ := uI hx; have h1 : bJ 0 p.nodes = bJ 0 (p.nodes.take i) ++ (bw (cM (p.nodes.take i)) (n.items.take k) ++ kq (cM (p.nodes.take i) + b8 (n.items.take k)) x.states :: (bw (cM (p.nodes.take i) + b8 (n.items.take k) + js x) q ++ bJ (0 + cM (p.nodes.take i) + b8 n.items) r)) := by
  conv => lhs; rw [hr]
  rw [jl, bJ, Nat.zero_add]; conv => lhs; rw [show bw (cM (p.nodes.take i)) n.items = bw (cM (p.nodes.take i)) (n.items.take k ++ x :: q) from by rw [<- hq]]
  rw [jm, bw, show nW (cM (p.nodes.take i) + b8 (n.items.take k)) x = [kq (cM (p.nodes.take i) + b8 (n.items.take k)) x.states] by unfold nW; rw [if_neg hs]]; simp
 rw [h1, <- List.append_assoc, <- List.append_assoc]; have hl : (p.enums ++ bJ 0 (p.nodes.take i) ++ bw (cM (p.nodes.take i)) (n.items.take k)).length = p.enums.length + cM (p.nodes.take i) + b8 (n.items.take k) := by
  rw [List.length_append, List.length_append, ph, tZ]
 rw [<- hl, List.getElem?_append_right (Nat.le_refl _), Nat.sub_self]; rfl
theorem sG (p : cZ) : (p.enums ++ bJ 0 p.nodes).length = p.enums.length + cM p.nodes := by rw [List.length_append, ph]
theorem Hp {p : cZ} {i k : Nat} {n : aY} {x : a8} (hn : p.nodes[i]? = some n) (hx : n.items[k]? = some x) (hs : x.states ≠ []) : p.enums.length + cM (p.nodes.take i) + b8 (n.items.take k) < (p.enums ++ bJ 0 p.nodes).length :=
 (List.getElem?_eq_some_iff.1 (AN hn hx hs)).1
end Go.Proofs.YtkfacdofkfabnaaGreatDoor
