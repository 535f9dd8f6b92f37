import Derived.Test.YtccihplmmfmonaaGreatDoorKm47
namespace Go.Proofs.YtccihplmmfmonaaGreatDoor
open Go.RowKit
def nQ : Int -> List Int -> Bool
 | _, [] => true
 | nx, x :: r => if x < nx ∨ x = 0 then false else nQ (if x = nx then nx - 1 else nx) r
theorem EZ (ks : KS) (l : List Int) : ∀ nums : List (Int × Int), (∀ p ∈ nums, -(nums.length : Int) <= p.2 /\ p.2 <= -1) -> nQ (-(nums.length : Int) - 1) (aP ks nums l).2 = true := by
 induction l with
 | nil => intro nums _; rfl
 | cons a r ih =>
   intro nums hn; rw [aP]; show nQ _ ((gN ks nums a).2 :: (aP ks (gN ks nums a).1 r).2) = true; rw [nQ]; unfold gN; split
   . rename_i hp; simp only; rw [if_neg zO, if_neg zO]; exact ih nums hn
   . split
     . rename_i x hx; obtain ⟨p, hp, e⟩ := List.mem_map.1 (kU hx); injection e with e1 e2; injection e2 with e2 e3; have := hn p hp; rw [e3] at this; simp only; rw [if_neg zO, if_neg zO]; exact ih nums hn
     . simp only; rw [if_neg zO, if_pos zO]
       have := ih (nums ++ [(jh ks a, -((nums.length : Int) + 1))]) (λ p hp => by
        rw [List.length_append]; rcases List.mem_append.1 hp with hp | hp
        . have := hn p hp; simp only [List.length_cons, List.length_nil]; omega
        . simp at hp; subst hp; simp only [List.length_cons, List.length_nil]; omega)
       rw [List.length_append] at this; simp only [List.length_cons, List.length_nil] at this; rw [show (-(nums.length : Int) - 1 - 1) = -((nums.length + (0 + 1) : Nat) : Int) - 1 by omega]; exact this
theorem kt (ks : KS) (l m : List Int) : ∀ nums : List (Int × Int), aP ks nums (l ++ m) = ((aP ks (aP ks nums l).1 m).1, (aP ks nums l).2 ++ (aP ks (aP ks nums l).1 m).2) := by
 induction l with
 | nil => intro nums; rfl
 | cons a r ih => intro nums; rw [List.cons_append, aP, ih, aP]; rfl
def sgL (s : SgE) : List Int := s.ins ++ s.outs
def gd (l : List SgE) : List Int := l.flatMap sgL
def qv (q : bk) : List Int := gd q.funs ++ q.sg.ins ++ q.sg.outs ++ q.vars.map Prod.snd
theorem xF (ks : KS) (l : List SgE) : ∀ nums : List (Int × Int), aP ks nums (gd l) = ((aQ ks nums l).1, gd (aQ ks nums l).2) := by
 induction l with
 | nil => intro nums; rfl
 | cons s r ih =>
   intro nums; rw [aQ]; show aP ks nums ((s.ins ++ s.outs) ++ gd r) = ((aQ ks (ll ks nums s).1 r).1, ((aP ks nums s.ins).2 ++ (aP ks (aP ks nums s.ins).1 s.outs).2) ++ gd (aQ ks (ll ks nums s).1 r).2); rw [kt, kt]; simp only; have := ih (ll ks nums s).1; rw [show (aP ks (aP ks nums s.ins).1 s.outs).1 = (ll ks nums s).1 from rfl, this]
theorem D3 (t : TSt) (n : aA) : nQ (-1) (qv (jA t n)) = true := by
 have h1 := EZ t.ks (gd (n.funs.map λ s => (bg t.funs s).getD ⟨[], []⟩) ++ n.ins.map t.var ++ n.outs.map t.var ++ (aD n).map t.var) [] (λ p hp => absurd hp List.not_mem_nil); rw [kt, kt, kt, xF] at h1; have hz : (jA t n).vars.map Prod.snd = (aP t.ks (aP t.ks (aP t.ks (aQ t.ks [] (n.funs.map λ s => (bg t.funs s).getD ⟨[], []⟩)).1 (n.ins.map t.var)).1 (n.outs.map t.var)).1 ((aD n).map t.var)).2 := by
  show ((aD n).zip _).map Prod.snd = _; exact List.map_snd_zip (Nat.le_of_eq (((cD t.ks _ _).2).trans (List.length_map _)))
 unfold qv; rw [hz]; exact h1
theorem yG {con : Tx -> Int} {P : bk -> Prop} (hP : ∀ t n, P (jA t n)) (ns : List aA) : ∀ (k : Int) (l : List (Tx × bk)), (∀ x ∈ l, P x.2) -> ∀ q ∈ (dB con k l ns).1, P q := by
 induction ns with
 | nil => intro k l hl q hq; obtain ⟨x, hx, rfl⟩ := List.mem_map.1 hq; exact hl x hx
 | cons n r ih =>
   intro k l hl q hq; rw [dB] at hq; split at hq
   . cases hq
   . exact ih _ _ (λ x hx => by rcases List.mem_append.1 hx with hx | hx; · exact hl x hx
                                . simp at hx; subst hx; exact hP _ _) q hq
theorem yI {con : Tx -> Int} {p : cy} {P : bk -> Prop} (hP : ∀ t n, P (jA t n)) : ∀ q ∈ (eE con p).1, P q := by
 intro q hq; unfold eE at hq; split at hq
 . split at hq
   . cases hq
   . exact yG hP _ _ _ (λ x hx => by cases hx) q hq
 . cases hq
def uB (q : bk) : Prop := qN q <= 84 /\ q.vars.length <= 1806
theorem yF {con : Tx -> Int} (ns : List aA) : ∀ (k : Int) (l : List (Tx × bk)), (∀ n ∈ ns, ∃ prev, rp prev n) -> (∀ x ∈ l, uB x.2) -> ∀ q ∈ (dB con k l ns).1, uB q := by
 induction ns with
 | nil => intro k l _ hl q hq; obtain ⟨x, hx, rfl⟩ := List.mem_map.1 hq; exact hl x hx
 | cons n r ih =>
   intro k l hns hl q hq; rw [dB] at hq; split at hq
   . cases hq
   . rename_i t ht; refine ih _ _ (λ m hm => hns m (by simp [hm])) (λ x hx => ?_) q hq; rcases List.mem_append.1 hx with hx | hx
     . exact hl x hx
     . simp at hx; subst hx; obtain ⟨prev, hfit⟩ := hns n (by simp); have h6 : ∀ i ∈ n.items, i.eq.names.length <= 6 := λ i hi => (hfit.names i hi).2
       have hfi : ju n.funs (eB n.funs (cg .new (aD n)) n.items).funs := yO n.items _ h6 hfit.right (by
        rw [(mb (aD n) TSt.new).2.1]; exact ⟨λ p hp => absurd hp List.not_mem_nil, List.nodup_nil⟩)
       obtain ⟨_, hf⟩ := qf (cx := ⟨con, bg l⟩) (D := 84) (λ nm q hq => (hl _ (xz hq)).1) h6 ht; have hfi' : ju n.funs t.funs := (by rw [hf]; exact hfi); have h0 := nX hfi' hfit.few.1; have h8 := (nZ hfit).2; have h9 := hfit.few; refine ⟨?_, ?_⟩
       . show fL (aQ t.ks [] (cw t n)).2 + sgN ⟨_, _⟩ <= 84; rw [pQ]; unfold sgN; show _ + (((aP t.ks (aQ t.ks [] (cw t n)).1 (n.ins.map t.var)).2).length + ((aP t.ks (aP t.ks (aQ t.ks [] (cw t n)).1 (n.ins.map t.var)).1 (n.outs.map t.var)).2).length) <= 84; rw [(cD t.ks _ _).2, (cD t.ks _ _).2, List.length_map, List.length_map]; omega
       . show ((aD n).zip _).length <= 1806; rw [List.length_zip]; omega
theorem yH {con : Tx -> Int} {p : cy} (hp : fD p <= 1048576) : ∀ q ∈ (eE con p).1, uB q := by
 intro q hq; unfold eE at hq; split at hq
 . rename_i hc; split at hq
   . cases hq
   . rename_i hs; refine yF _ _ _ (λ n hn => ?_) (λ x hx => by cases hx) q hq; obtain ⟨k, hk⟩ := List.getElem?_of_mem hn; exact ⟨_, td hc hp (by simpa using hs) k n hk⟩
 . cases hq
theorem Ef (l : List SgE) : (gd l).length = fL l := by
 induction l with
 | nil => rfl
 | cons s r ih =>
   show (sgL s ++ gd r).length = sgN s + fL r; rw [List.length_append, ih]; unfold sgL sgN; rw [List.length_append]
end Go.Proofs.YtccihplmmfmonaaGreatDoor
