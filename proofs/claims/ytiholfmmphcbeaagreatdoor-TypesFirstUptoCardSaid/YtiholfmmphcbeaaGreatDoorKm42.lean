import Derived.Test.YtiholfmmphcbeaaGreatDoorKm34
import Derived.Test.YtiholfmmphcbeaaGreatDoorKm41
namespace Go.Proofs.YtiholfmmphcbeaaGreatDoor
open Go.RowKit (zH zO zD zK zW zA zB zG)
open Go.RowKit (wrap64)
structure Gx (op : Int) (nm : Tx) (cs : List Tx) (ks : List Ex) : Prop where
 kids8 : ks.length <= 8
 cons8 : cs.length <= 8
 kids : op ≠ 1 -> op ≠ 2 -> op ≠ 3 -> op ≠ 4 -> ks ≠ []
 three : op = 7 -> ks.length = 3
 one : op = 5 -> ks.length = 1
 two : op = 6 -> ks.length = 2
 arms : (op = 11 ∨ op = 12) -> cs ≠ []
 call : op = 14 -> ks.length <= 6 /\ cs.length <= 6
 every : op = 15 -> ∃ a b, ks = [a, b] /\ a.op = 14
theorem iU {made : Bool} {op : Int} {nm : Tx} {n : Int} {cs : List Tx} {ks : List Ex} (h : br made op nm n cs ks = true) : Gx op nm cs ks := by
 unfold br at h; have hl : ∀ {X : Type} {l : List X}, l.isEmpty = true -> l = [] := λ h => List.isEmpty_iff.1 h; by_cases e : op = 1
 . rw [if_pos e] at h; subst e; simp only [Bool.and_eq_true] at h; have h1 := hl h.2; have h2 := hl h.1.2; subst h1; subst h2; constructor <;> simp
 rw [if_neg e] at h; clear e; by_cases e : op = 2
 . rw [if_pos e] at h; subst e; simp only [Bool.and_eq_true] at h; have h1 := hl h.2; have h2 := hl h.1.2; subst h1; subst h2; constructor <;> simp
 rw [if_neg e] at h; clear e; by_cases e : op = 3
 . rw [if_pos e] at h; subst e; simp only [Bool.and_eq_true] at h; have h1 := hl h.2; have h2 := hl h.1.2; subst h1; subst h2; constructor <;> simp
 rw [if_neg e] at h; clear e; by_cases e : op = 4
 . rw [if_pos e] at h; subst e; simp only [Bool.and_eq_true] at h; have h1 := hl h.2; have h2 := hl h.1.2; subst h1; subst h2; constructor <;> simp
 rw [if_neg e] at h; clear e; by_cases e : op = 5
 . rw [if_pos e] at h; subst e; simp only [Bool.and_eq_true, beq_iff_eq] at h; have h1 := h.2; have h2 := hl h.1.2; subst h2; constructor <;> (try simp) <;> (try omega)
   intro e; rw [e] at h1; cases h1
 rw [if_neg e] at h; clear e; by_cases e : op = 6
 . rw [if_pos e] at h; subst e; simp only [Bool.and_eq_true, beq_iff_eq] at h; have h1 := h.2; have h2 := hl h.1.2; subst h2; constructor <;> (try simp) <;> (try omega)
   intro e; rw [e] at h1; cases h1
 rw [if_neg e] at h; clear e; by_cases e : op = 7
 . rw [if_pos e] at h; subst e; simp only [Bool.and_eq_true, beq_iff_eq] at h; have h1 := h.2; have h2 := hl h.1.2; subst h2; constructor <;> (try simp) <;> (try omega)
   intro e; rw [e] at h1; cases h1
 rw [if_neg e] at h; clear e; by_cases e : op = 8
 . rw [if_pos e] at h; subst e; simp only [Bool.and_eq_true, beq_iff_eq] at h; have h1 := h.2; have h2 := hl h.1.2; subst h2; constructor <;> (try simp) <;> (try omega)
   intro e; rw [e] at h1; cases h1
 rw [if_neg e] at h; clear e; by_cases e : op = 9
 . rw [if_pos e] at h; subst e; simp only [Bool.and_eq_true, beq_iff_eq] at h; have h1 := h.2; have h2 := hl h.1.2; subst h2; constructor <;> (try simp) <;> (try omega)
   intro e; rw [e] at h1; cases h1
 rw [if_neg e] at h; clear e; by_cases e : op = 10
 . rw [if_pos e] at h; subst e; simp only [Bool.and_eq_true, beq_iff_eq] at h; have h1 := h.2; have h2 := hl h.1.2; subst h2; constructor <;> (try simp) <;> (try omega)
   intro e; rw [e] at h1; cases h1
 rw [if_neg e] at h; clear e; by_cases e : op = 11
 . rw [if_pos e] at h; subst e; simp only [fp, Bool.and_eq_true, beq_iff_eq, decide_eq_true_eq] at h; have h1 := h.2; have h2 := h.1.2.1; constructor <;> (try simp) <;> (try omega)
   . intro e; rw [e] at h1; cases h1
   . intro e; rw [e] at h2; simp at h2
 rw [if_neg e] at h; clear e; by_cases e : op = 12
 . rw [if_pos e] at h; subst e; simp only [fp, Bool.and_eq_true, beq_iff_eq, decide_eq_true_eq] at h; have h1 := h.2; have h2 := h.1.2.1; constructor <;> (try simp) <;> (try omega)
   . intro e; rw [e] at h1; simp at h1; omega
   . intro e; rw [e] at h2; simp at h2
 rw [if_neg e] at h; clear e; by_cases e : op = 13
 . rw [if_pos e] at h; subst e; simp only [fp, Bool.and_eq_true, beq_iff_eq, decide_eq_true_eq] at h; have h1 := h.2; have h2 := h.1.2.1; constructor <;> (try simp) <;> (try omega)
   . intro e; rw [e] at h1; simp at h1; omega
 rw [if_neg e] at h; clear e; by_cases e : op = 14
 . rw [if_pos e] at h; subst e; simp only [fp, Bool.and_eq_true, beq_iff_eq, decide_eq_true_eq] at h; have h1 := h.2; have h2 := h.1.2.1; constructor <;> (try simp) <;> (try omega)
   . intro e; rw [e] at h1; simp at h1
 rw [if_neg e] at h; clear e; by_cases e : op = 15
 . rw [if_pos e] at h; subst e; simp only [Bool.and_eq_true, beq_iff_eq] at h; have h2 := hl h.1.2; subst h2; match ks, h.2 with
   | [a, b], h1 =>
     constructor <;> (try simp)
     simpa using h1.2
   | [], h1 => simp at h1
   | [_], h1 => simp at h1
   | _ :: _ :: _ :: _, h1 => simp at h1
 rw [if_neg e] at h; cases h
theorem ga {made : Bool} {l : List Ex} (h : kN made l = true) : ∀ k ∈ l, bI made k = true := by
 rw [jR, List.all_eq_true] at h; exact h
theorem wY {s : dM} {op results : Int} {uns : Bool} : ∀ {l : List Ex} {first : Bool}, eQ s op results uns first l = true -> ∀ k ∈ l, ∃ r, dV s r uns k = true := by
 intro l; induction l with
 | nil => intro _ _ k hk; cases hk
 | cons x r ih =>
   intro first h k hk; rw [eQ, Bool.and_eq_true] at h; rcases List.mem_cons.1 hk with rfl | hk
   . exact ⟨_, h.1⟩
   . exact ih h.2 k hk
structure EN (s : dM) (fs : List (Tx × SgE)) (sig : Tx -> Option bz) : Prop where
 funs : ∀ c, bl fs c ≠ none ↔ s.funs.contains c = true
 to : ∀ nm n, bl s.prog.nodes nm = some n -> ∃ q, sig nm = some q /\ q.funs.length = n.funs.length
theorem C2 {s : dM} {fs : List (Tx × SgE)} {sig : Tx -> Option bz} (hk : EN s fs sig) {c : Tx} (h : jD s c = true) : nM fs sig c := by
 unfold jD at h; rw [Bool.or_eq_true] at h; rcases h with h | h
 . exact .inl ((hk.funs c).2 h)
 . split at h
   . rename_i n hn; obtain ⟨q, hq, _⟩ := hk.to c n hn; exact .inr (by rw [hq]; simp)
   . cases h
theorem HZ {made : Bool} {s : dM} {fs : List (Tx × SgE)} {sig : Tx -> Option bz} (hk : EN s fs sig) : ∀ x : Ex, ∀ (results : Int) (uns : Bool), bI made x = true -> dV s results uns x = true -> okX fs sig x := by
 refine Ex.ind λ op nm m cs ks ih => ?_; intro results uns hr hu; rw [bI, Bool.and_eq_true] at hr; rw [dV, Bool.and_eq_true] at hu; have hs := iU hr.1; rw [okX]; refine ⟨⟨by have := hs.kids8; omega, hs.arms, hs.kids, λ e => by have := hs.three e; omega, λ e => ?_, λ e => ?_⟩, ?_⟩
 . have h1 := hu.1; subst e; have h2 : ip s nm cs ks.length results = true := (by simpa [bg] using h1); unfold ip at h2; split at h2
   . rename_i hc; have hce : cs = [] := List.isEmpty_iff.1 h2; exact ⟨λ c hc => (by rw [hce] at hc; cases hc), .inl ((hk.funs nm).2 hc), λ _ => hce, λ hg => absurd hg ((hk.funs nm).2 hc)⟩
   . rename_i hc; have hn0 : bl fs nm = none := by
      cases hg : bl fs nm with
      | none => rfl
      | some v => exact absurd ((hk.funs nm).1 (by rw [hg]; simp)) hc
     split at h2
     . cases h2
     . rename_i n hn; obtain ⟨q, hq, hql⟩ := hk.to nm n hn; simp only [Bool.and_eq_true, beq_iff_eq] at h2; have hall := List.all_eq_true.1 h2.2.2.2; refine ⟨λ c hc => C2 hk (hall c hc), .inr (by rw [hq]; simp), λ hg => absurd hn0 hg, λ _ q' hq' => ?_⟩; rw [hq] at hq'; cases hq'; omega
 . obtain ⟨a, b, e, _⟩ := hs.every e; exact ⟨a, b, e⟩
 . have : ∀ l : List Ex, (∀ k ∈ l, k ∈ ks) -> Bb fs sig l := by
    intro l; induction l with
    | nil => intro _; trivial
    | cons k r ihr =>
      intro hl; rw [Bb]; obtain ⟨r', hr'⟩ := wY hu.2 k (hl k (by simp)); exact ⟨ih k (hl k (by simp)) r' _ (ga hr.2 k (hl k (by simp))) hr', ihr λ k hk => hl k (by simp [hk])⟩
   exact this ks λ _ h => h
mutual
def gH : Ex -> Nat
 | .mk _ _ _ _ ks => 1 + cr ks
def cr : List Ex -> Nat
 | [] => 0
 | k :: r => gH k + cr r
end
theorem Ef {made : Bool} (D : Nat) : ∀ x : Ex, bI made x = true -> gh D x <= (9 * D + 7) * gH x := by
 refine Ex.ind λ op nm m cs ks ih => ?_; intro hr; rw [bI, Bool.and_eq_true] at hr; have hs := iU hr.1; have : ∀ l : List Ex, (∀ k ∈ l, k ∈ ks) -> bQ D l <= (9 * D + 7) * cr l := by
  intro l; induction l with
  | nil => intro _; simp [bQ]
  | cons k r ihr =>
    intro hl; rw [bQ, cr, Nat.mul_add]; have h1 := ih k (hl k (by simp)) (ga hr.2 k (hl k (by simp))); have h2 := ihr λ k hk => hl k (by simp [hk]); omega
 have h1 := this ks λ _ h => h; have e : (9 * D + 7) * (1 + cr ks) = (9 * D + 7) + (9 * D + 7) * cr ks := (by rw [Nat.mul_add, Nat.mul_one]); rw [gh, gH, e]; have h2 : D * (cs.length + 1) <= D * 9 := Nat.mul_le_mul_left D (by have := hs.cons8; omega); rw [Nat.mul_comm D 9] at h2; omega
theorem IF : ∀ x : Ex, gH x <= wX x := by
 refine Ex.ind λ op nm m cs ks ih => ?_; have : ∀ l : List Ex, (∀ k ∈ l, k ∈ ks) -> cr l <= wXs l := by
  intro l; induction l with
  | nil => intro _; simp [cr]
  | cons k r ihr =>
    intro hl; rw [cr, wXs]; have h1 := ih k (hl k (by simp)); have h2 := ihr λ k hk => hl k (by simp [hk]); omega
 have h1 := this ks λ _ h => h; rw [gH, wX]; omega
theorem uq {z : Int} (h0 : 0 <= z) (h1 : z < 9223372036854775808) : wrap64 z = z := by
 unfold wrap64; omega
theorem CJ : ∀ x : Ex, gH x < 9223372036854775807 -> oc x = gH x := by
 refine Ex.ind λ op nm m cs ks ih => ?_; intro hx; have : ∀ l : List Ex, (∀ k ∈ l, k ∈ ks) -> ∀ n : Nat, n + cr l < 9223372036854775808 -> gw n l = ((n + cr l : Nat) : Int) := by
  intro l; induction l with
  | nil => intro _ n _; simp [gw, cr]
  | cons k r ihr =>
    intro hl n hn; rw [cr] at hn ⊢; have hkl := hl k (by simp); have hk : gH k <= cr ks := by
     have : ∀ (l : List Ex) k, k ∈ l -> gH k <= cr l := by
      intro l; induction l with
      | nil => intro k hk; cases hk
      | cons x r ih => intro k hk; rw [cr]; rcases List.mem_cons.1 hk with rfl | hk; · omega
                       . have := ih k hk; omega
     exact this ks k hkl
    rw [gH] at hx; rw [gw, ih k hkl zO, uq zO zO]; have := ihr (λ k hk => hl k (by simp [hk])) (n + gH k) zO; rw [show ((n : Int) + (gH k : Int)) = ((n + gH k : Nat) : Int) by omega, this]; congr 1
    omega
 rw [gH] at hx ⊢; rw [oc]; have := this ks (λ _ h => h) 1 zO; simpa using this
theorem Bj (l : List Ex) : ∀ s : Nat, s + cr l < 9223372036854775807 -> iL s l = false -> s + cr l <= 300 := by
 induction l with
 | nil =>
   intro s _ h; rw [iL, decide_eq_false_iff_not] at h; simp only [cr]; omega
 | cons x r ih =>
   intro s hs h; rw [cr] at hs ⊢; rw [iL] at h; split at h
   . cases h
   . rw [CJ x zO, uq zO zO, show ((s : Int) + (gH x : Int)) = ((s + gH x : Nat) : Int) by omega] at h; have := ih (s + gH x) zO h; omega
structure tc (prev : List aA) (n : aA) : Prop where
 plain : ∀ i ∈ n.items, i.states = []
 names : ∀ i ∈ n.items, 1 <= i.eq.names.length /\ i.eq.names.length <= 6
 right : ∀ i ∈ n.items, bI true i.eq.e = true
 one : ∀ i ∈ n.items, i.eq.names.length = 1 ∨ i.eq.e.op = 14 ∨ i.eq.e.op = 15
 uses : ∃ s : dM, s.funs = n.funs /\ s.prog.nodes = prev.map (λ n => (n.name, n)) /\ ∀ i ∈ n.items, dV s i.eq.names.length false i.eq.e = true
 nodup : (aG n).Nodup
 outs : ∀ o ∈ n.outs, o ∈ aG n
 funs : n.funs.Nodup
 few : n.funs.length <= 6 /\ n.ins.length <= 6 /\ n.outs.length <= 6
 size : cr (n.items.map λ i => i.eq.e) <= 300
 fresh : n.name ∉ prev.map aA.name
theorem mg (l : List bf) : ∀ (b : Int) (s : aK) (vars : List Tx) (s' : aK) (vars' : List Tx), ef b s vars l = .inl (s', vars') -> s'.nodes = s.nodes := by
 induction l with
 | nil => intro b s vars s' vars' h; cases h; rfl
 | cons i r ih =>
   intro b s vars s' vars' h; rw [gd] at h; split at h
   . exact (ih _ _ _ _ _ h).trans rfl
   . cases h
theorem AB (l : List bf) : ∀ (b : Int) (s : aK) (vars : List Tx) (r : aK × List Tx), ef b s vars l = .inl r -> ∀ i ∈ l, ∃ s1 v1, de s1 v1 i = true := by
 induction l with
 | nil => intro b s vars r _ i hi; cases hi
 | cons x r ih =>
   intro b s vars r' h i hi; rw [gd] at h; split at h
   . rename_i hok; rcases List.mem_cons.1 hi with rfl | hi
     . exact ⟨_, _, hok⟩
     . exact ih _ _ _ _ h i hi
   . cases h
theorem tj (l : List fo) : ∀ (k : Int) (s s' : aK), eG k s l = .inl s' -> s'.nodes = s.nodes := by
 induction l with
 | nil => intro k s s' h; cases h; rfl
 | cons e r ih =>
   intro k s s' h; rw [eG] at h; split at h
   . exact (ih _ _ _ h).trans rfl
   . cases h
theorem He (l : List aA) : ∀ (k : Int) (s : aK) (prev : List aA), s.nodes = prev.map (λ n => (n.name, n)) -> dE k s l = (0, 0, 0) -> ∀ (j : Nat) n, l[j]? = some n -> ∃ s0 s' : aK, s0.nodes = (prev ++ l.take j).map (λ n => (n.name, n)) /\ bu s0 n = .inl s' := by
 induction l with
 | nil => intro k s prev _ _ j n h; simp at h
 | cons x r ih =>
   intro k s prev hs h j n hj; cases hx : bu s x with
   | inr b => rw [kX hx] at h; cases h
   | inl s' =>
     rw [gT hx] at h; cases j with
     | zero =>
       simp at hj; subst hj; exact ⟨s, s', by simpa using hs, hx⟩
     | succ j =>
       obtain ⟨_, s1, vars, hi, _, _, e⟩ := lK hx; have hn : s'.nodes = (prev ++ [x]).map (λ n => (n.name, n)) := by
        rw [e]; simp [mg _ _ _ _ _ _ hi, hs]
       obtain ⟨s0, s2, h1, h2⟩ := ih _ _ (prev ++ [x]) hn h j n (by simpa using hj); exact ⟨s0, s2, by rw [h1]; simp, h2⟩
theorem BW {p : cg} (h : cO true p = (0, 0, 0)) (hp : eZ p <= 1048576) (hs : p.nodes.any f7 = false) (k : Nat) (n : aA) (hk : p.nodes[k]? = some n) : tc (p.nodes.take k) n := by
 have hmem : n ∈ p.nodes := List.mem_of_getElem? hk; obtain ⟨_, h0, s, he, hn⟩ := fT (made := true) (p := p) (by rw [h]); obtain ⟨hR, hL⟩ := iy h0; obtain ⟨s0, s', hs0, hstep⟩ := He _ _ _ [] (by rw [tj _ _ _ _ he]; rfl) hn k n hk; rw [List.nil_append] at hs0; have hw := Bc hstep; obtain ⟨hh, s1, vars, hi, ho, hu, _⟩ := lK hstep; have hpl : ∀ i ∈ n.items, i.states = [] := λ i hii => by
  rw [List.any_eq_false] at hs; have h1 := hs n hmem; unfold f7 at h1; simp only [Bool.not_eq_true, List.any_eq_false, Bool.or_eq_true, not_or] at h1; have h2 := (h1 i hii).1; cases hst : i.states with
  | nil => rfl
  | cons a r => rw [hst] at h2; simp at h2
 unfold gR at hR; rw [Bool.and_eq_true] at hR; have hrn := (cw hR.2).2.2 n hmem; unfold fg at hrn; simp only [Bool.and_eq_true] at hrn; have hfu := cw hrn.2.1; have hin := cw hrn.2.2.1; have hou := cw hrn.2.2.2.1; have hit := cw hrn.2.2.2.2; have hri : ∀ i ∈ n.items, fu true i.eq = true := λ i hii => by
  have h1 := hit.2.2 i hii; unfold cJ at h1; rwa [if_pos (hpl i hii)] at h1
 have hre : ∀ i ∈ n.items, (1 <= i.eq.names.length /\ i.eq.names.length <= 6) /\ bI true i.eq.e = true := λ i hii => by
  have h1 := hri i hii; unfold fu at h1; rw [Bool.and_eq_true] at h1; have h2 := cw h1.1; exact ⟨⟨h2.1, h2.2.1⟩, h1.2⟩
 refine ⟨hpl, λ i hii => (hre i hii).1, λ i hii => (hre i hii).2, λ i hii => ?_, ⟨⟨s1, n.funs, vars⟩, rfl, ?_, λ i hii => ?_⟩, hw.nodup, λ o hoo => (hw.outs o hoo).1, ?_, ⟨hfu.2.1, hin.2.1, hou.2.1⟩, ?_, ?_⟩
 . obtain ⟨s2, v2, h1⟩ := AB _ _ _ _ _ hi i hii; unfold de at h1; rw [Bool.and_eq_true, if_pos (hpl i hii), Bool.or_eq_true, Bool.or_eq_true, beq_iff_eq, beq_iff_eq, beq_iff_eq] at h1; exact h1.2
 . show s1.nodes = _; rw [mg _ _ _ _ _ _ hi, hs0]
 . have h1 := pA _ _ _ hu i hii; rwa [dY, if_pos (hpl i hii)] at h1
 . unfold cN at hh; simp only [Bool.and_eq_true] at hh; have h1 := (kQ _ _ List.nodup_nil).1 hh.2.1; rw [List.nil_append] at h1; exact (List.nodup_append.1 h1).1
 . rw [List.any_eq_false] at hL; have h1 := hL n hmem; rw [Bool.not_eq_true] at h1; unfold gu at h1; have h2 : gb n = n.items.map λ i => i.eq.e := by
    unfold gb; have : ∀ l : List bf, (∀ i ∈ l, i.states = []) -> l.flatMap gY = l.map λ i => i.eq.e := by
     intro l; induction l with
     | nil => intro _; rfl
     | cons x r ih =>
       intro hl; rw [List.flatMap_cons, List.map_cons, ih λ i hi => hl i (by simp [hi])]; unfold gY; rw [if_pos (hl x (by simp)), hl x (by simp)]; rfl
    exact this _ hpl
   rw [h2] at h1; have h3 : cr (n.items.map λ i => i.eq.e) <= 1048576 := by
    have h4 := wT (f := jz) hmem; have h5 : cr (n.items.map λ i => i.eq.e) <= wL iQ n.items := by
     have : ∀ l : List bf, cr (l.map λ i => i.eq.e) <= wL iQ l := by
      intro l; induction l with
      | nil => simp [cr]
      | cons x r ih =>
        rw [List.map_cons, cr, wL]; have := IF x.eq.e; simp only [iQ, wEq]; omega
     exact this _
    unfold eZ at hp; simp only [jz] at h4; omega
   have := Bj _ 0 zO h1; omega
 . unfold cN at hh; simp only [Bool.and_eq_true, Bool.not_eq_true'] at hh; have h1 := hh.1; rw [<- Bool.not_eq_true, List.contains_iff_mem] at h1; intro hm; apply h1; unfold aK.nodeKeys; rw [hs0, List.map_map]; exact hm
end Go.Proofs.YtiholfmmphcbeaaGreatDoor
