import Derived.Test.YtccihplmmfmonaaGreatDoorKm34
import Derived.Test.YtccihplmmfmonaaGreatDoorKm41
namespace Go.Proofs.YtccihplmmfmonaaGreatDoor
open Go.RowKit (zH zO zD zK zW zA zB zG)
open Go.RowKit (wrap64)
structure GU (op : Int) (nm : Tx) (cs : List Tx) (ks : List Ex) : Prop where
 kids8 : ks.length <= 8
 cons8 : cs.length <= 8
 kids : op ≠ 1 -> op ≠ 2 -> op ≠ 3 -> op ≠ 4 -> ks ≠ []
 three : op = 7 -> ks.length = 3
 one : op = 5 -> ks.length = 1
 two : op = 6 -> ks.length = 2
 arms : (op = 11 ∨ op = 12) -> cs ≠ []
 call : op = 14 -> ks.length <= 6 /\ cs.length <= 6
 every : op = 15 -> ∃ a b, ks = [a, b] /\ a.op = 14
theorem iQ {made : Bool} {op : Int} {nm : Tx} {n : Int} {cs : List Tx} {ks : List Ex} (h : bp made op nm n cs ks = true) : GU op nm cs ks := by
 unfold bp at h; have hl : ∀ {X : Type} {l : List X}, l.isEmpty = true -> l = [] := λ h => List.isEmpty_iff.1 h; by_cases e : op = 1
 . rw [if_pos e] at h; subst e; simp only [Bool.and_eq_true] at h; have h1 := hl h.2; have h2 := hl h.1.2; subst h1; subst h2; constructor <;> simp
 rw [if_neg e] at h; clear e; by_cases e : op = 2
 . rw [if_pos e] at h; subst e; simp only [Bool.and_eq_true] at h; have h1 := hl h.2; have h2 := hl h.1.2; subst h1; subst h2; constructor <;> simp
 rw [if_neg e] at h; clear e; by_cases e : op = 3
 . rw [if_pos e] at h; subst e; simp only [Bool.and_eq_true] at h; have h1 := hl h.2; have h2 := hl h.1.2; subst h1; subst h2; constructor <;> simp
 rw [if_neg e] at h; clear e; by_cases e : op = 4
 . rw [if_pos e] at h; subst e; simp only [Bool.and_eq_true] at h; have h1 := hl h.2; have h2 := hl h.1.2; subst h1; subst h2; constructor <;> simp
 rw [if_neg e] at h; clear e; by_cases e : op = 5
 . rw [if_pos e] at h; subst e; simp only [Bool.and_eq_true, beq_iff_eq] at h; have h1 := h.2; have h2 := hl h.1.2; subst h2; constructor <;> (try simp) <;> (try omega)
   intro e; rw [e] at h1; cases h1
 rw [if_neg e] at h; clear e; by_cases e : op = 6
 . rw [if_pos e] at h; subst e; simp only [Bool.and_eq_true, beq_iff_eq] at h; have h1 := h.2; have h2 := hl h.1.2; subst h2; constructor <;> (try simp) <;> (try omega)
   intro e; rw [e] at h1; cases h1
 rw [if_neg e] at h; clear e; by_cases e : op = 7
 . rw [if_pos e] at h; subst e; simp only [Bool.and_eq_true, beq_iff_eq] at h; have h1 := h.2; have h2 := hl h.1.2; subst h2; constructor <;> (try simp) <;> (try omega)
   intro e; rw [e] at h1; cases h1
 rw [if_neg e] at h; clear e; by_cases e : op = 8
 . rw [if_pos e] at h; subst e; simp only [Bool.and_eq_true, beq_iff_eq] at h; have h1 := h.2; have h2 := hl h.1.2; subst h2; constructor <;> (try simp) <;> (try omega)
   intro e; rw [e] at h1; cases h1
 rw [if_neg e] at h; clear e; by_cases e : op = 9
 . rw [if_pos e] at h; subst e; simp only [Bool.and_eq_true, beq_iff_eq] at h; have h1 := h.2; have h2 := hl h.1.2; subst h2; constructor <;> (try simp) <;> (try omega)
   intro e; rw [e] at h1; cases h1
 rw [if_neg e] at h; clear e; by_cases e : op = 10
 . rw [if_pos e] at h; subst e; simp only [Bool.and_eq_true, beq_iff_eq] at h; have h1 := h.2; have h2 := hl h.1.2; subst h2; constructor <;> (try simp) <;> (try omega)
   intro e; rw [e] at h1; cases h1
 rw [if_neg e] at h; clear e; by_cases e : op = 11
 . rw [if_pos e] at h; subst e; simp only [fC, Bool.and_eq_true, beq_iff_eq, decide_eq_true_eq] at h; have h1 := h.2; have h2 := h.1.2.1; constructor <;> (try simp) <;> (try omega)
   . intro e; rw [e] at h1; cases h1
   . intro e; rw [e] at h2; simp at h2
 rw [if_neg e] at h; clear e; by_cases e : op = 12
 . rw [if_pos e] at h; subst e; simp only [fC, Bool.and_eq_true, beq_iff_eq, decide_eq_true_eq] at h; have h1 := h.2; have h2 := h.1.2.1; constructor <;> (try simp) <;> (try omega)
   . intro e; rw [e] at h1; simp at h1; omega
   . intro e; rw [e] at h2; simp at h2
 rw [if_neg e] at h; clear e; by_cases e : op = 13
 . rw [if_pos e] at h; subst e; simp only [fC, Bool.and_eq_true, beq_iff_eq, decide_eq_true_eq] at h; have h1 := h.2; have h2 := h.1.2.1; constructor <;> (try simp) <;> (try omega)
   . intro e; rw [e] at h1; simp at h1; omega
 rw [if_neg e] at h; clear e; by_cases e : op = 14
 . rw [if_pos e] at h; subst e; simp only [fC, Bool.and_eq_true, beq_iff_eq, decide_eq_true_eq] at h; have h1 := h.2; have h2 := h.1.2.1; constructor <;> (try simp) <;> (try omega)
   . intro e; rw [e] at h1; simp at h1
 rw [if_neg e] at h; clear e; by_cases e : op = 15
 . rw [if_pos e] at h; subst e; simp only [Bool.and_eq_true, beq_iff_eq] at h; have h2 := hl h.1.2; subst h2; match ks, h.2 with
   | [a, b], h1 =>
     constructor <;> (try simp)
     simpa using h1.2
   | [], h1 => simp at h1
   | [_], h1 => simp at h1
   | _ :: _ :: _ :: _, h1 => simp at h1
 rw [if_neg e] at h; cases h
theorem fZ {made : Bool} {l : List Ex} (h : kK made l = true) : ∀ k ∈ l, bG made k = true := by
 rw [jP, List.all_eq_true] at h; exact h
theorem xh {s : dJ} {op results : Int} {uns : Bool} : ∀ {l : List Ex} {first : Bool}, eP s op results uns first l = true -> ∀ k ∈ l, ∃ r, dP s r uns k = true := by
 intro l; induction l with
 | nil => intro _ _ k hk; cases hk
 | cons x r ih =>
   intro first h k hk; rw [eP, Bool.and_eq_true] at h; rcases List.mem_cons.1 hk with rfl | hk
   . exact ⟨_, h.1⟩
   . exact ih h.2 k hk
structure Fb (s : dJ) (fs : List (Tx × SgE)) (sig : Tx -> Option bk) : Prop where
 funs : ∀ c, bg fs c ≠ none ↔ s.funs.contains c = true
 to : ∀ nm n, bg s.prog.nodes nm = some n -> ∃ q, sig nm = some q /\ q.funs.length = n.funs.length
theorem Dj {s : dJ} {fs : List (Tx × SgE)} {sig : Tx -> Option bk} (hk : Fb s fs sig) {c : Tx} (h : jz s c = true) : nO fs sig c := by
 unfold jz at h; rw [Bool.or_eq_true] at h; rcases h with h | h
 . exact .inl ((hk.funs c).2 h)
 . split at h
   . rename_i n hn; obtain ⟨q, hq, _⟩ := hk.to c n hn; exact .inr (by rw [hq]; simp)
   . cases h
theorem Ix {made : Bool} {s : dJ} {fs : List (Tx × SgE)} {sig : Tx -> Option bk} (hk : Fb s fs sig) : ∀ x : Ex, ∀ (results : Int) (uns : Bool), bG made x = true -> dP s results uns x = true -> okX fs sig x := by
 refine Ex.ind λ op nm m cs ks ih => ?_; intro results uns hr hu; rw [bG, Bool.and_eq_true] at hr; rw [dP, Bool.and_eq_true] at hu; have hs := iQ hr.1; rw [okX]; refine ⟨⟨by have := hs.kids8; omega, hs.arms, hs.kids, λ e => by have := hs.three e; omega, λ e => ?_, λ e => ?_⟩, ?_⟩
 . have h1 := hu.1; subst e; have h2 : hH s nm cs ks.length results = true := (by simpa [bf] using h1); unfold hH at h2; split at h2
   . rename_i hc; have hce : cs = [] := List.isEmpty_iff.1 h2; exact ⟨λ c hc => (by rw [hce] at hc; cases hc), .inl ((hk.funs nm).2 hc), λ _ => hce, λ hg => absurd hg ((hk.funs nm).2 hc)⟩
   . rename_i hc; have hn0 : bg fs nm = none := by
      cases hg : bg fs nm with
      | none => rfl
      | some v => exact absurd ((hk.funs nm).1 (by rw [hg]; simp)) hc
     split at h2
     . cases h2
     . rename_i n hn; obtain ⟨q, hq, hql⟩ := hk.to nm n hn; simp only [Bool.and_eq_true, beq_iff_eq] at h2; have hall := List.all_eq_true.1 h2.2.2.2; refine ⟨λ c hc => Dj hk (hall c hc), .inr (by rw [hq]; simp), λ hg => absurd hn0 hg, λ _ q' hq' => ?_⟩; rw [hq] at hq'; cases hq'; omega
 . obtain ⟨a, b, e, _⟩ := hs.every e; exact ⟨a, b, e⟩
 . have : ∀ l : List Ex, (∀ k ∈ l, k ∈ ks) -> Bq fs sig l := by
    intro l; induction l with
    | nil => intro _; trivial
    | cons k r ihr =>
      intro hl; rw [Bq]; obtain ⟨r', hr'⟩ := xh hu.2 k (hl k (by simp)); exact ⟨ih k (hl k (by simp)) r' _ (fZ hr.2 k (hl k (by simp))) hr', ihr λ k hk => hl k (by simp [hk])⟩
   exact this ks λ _ h => h
mutual
def gD : Ex -> Nat
 | .mk _ _ _ _ ks => 1 + cp ks
def cp : List Ex -> Nat
 | [] => 0
 | k :: r => gD k + cp r
end
theorem EA {made : Bool} (D : Nat) : ∀ x : Ex, bG made x = true -> gf D x <= (9 * D + 7) * gD x := by
 refine Ex.ind λ op nm m cs ks ih => ?_; intro hr; rw [bG, Bool.and_eq_true] at hr; have hs := iQ hr.1; have : ∀ l : List Ex, (∀ k ∈ l, k ∈ ks) -> bP D l <= (9 * D + 7) * cp l := by
  intro l; induction l with
  | nil => intro _; simp [bP]
  | cons k r ihr =>
    intro hl; rw [bP, cp, Nat.mul_add]; have h1 := ih k (hl k (by simp)) (fZ hr.2 k (hl k (by simp))); have h2 := ihr λ k hk => hl k (by simp [hk]); omega
 have h1 := this ks λ _ h => h; have e : (9 * D + 7) * (1 + cp ks) = (9 * D + 7) + (9 * D + 7) * cp ks := (by rw [Nat.mul_add, Nat.mul_one]); rw [gf, gD, e]; have h2 : D * (cs.length + 1) <= D * 9 := Nat.mul_le_mul_left D (by have := hs.cons8; omega); rw [Nat.mul_comm D 9] at h2; omega
theorem I6 : ∀ x : Ex, gD x <= wX x := by
 refine Ex.ind λ op nm m cs ks ih => ?_; have : ∀ l : List Ex, (∀ k ∈ l, k ∈ ks) -> cp l <= wXs l := by
  intro l; induction l with
  | nil => intro _; simp [cp]
  | cons k r ihr =>
    intro hl; rw [cp, wXs]; have h1 := ih k (hl k (by simp)); have h2 := ihr λ k hk => hl k (by simp [hk]); omega
 have h1 := this ks λ _ h => h; rw [gD, wX]; omega
theorem uD {z : Int} (h0 : 0 <= z) (h1 : z < 9223372036854775808) : wrap64 z = z := by
 unfold wrap64; omega
theorem C2 : ∀ x : Ex, gD x < 9223372036854775807 -> oo x = gD x := by
 refine Ex.ind λ op nm m cs ks ih => ?_; intro hx; have : ∀ l : List Ex, (∀ k ∈ l, k ∈ ks) -> ∀ n : Nat, n + cp l < 9223372036854775808 -> gu n l = ((n + cp l : Nat) : Int) := by
  intro l; induction l with
  | nil => intro _ n _; simp [gu, cp]
  | cons k r ihr =>
    intro hl n hn; rw [cp] at hn ⊢; have hkl := hl k (by simp); have hk : gD k <= cp ks := by
     have : ∀ (l : List Ex) k, k ∈ l -> gD k <= cp l := by
      intro l; induction l with
      | nil => intro k hk; cases hk
      | cons x r ih => intro k hk; rw [cp]; rcases List.mem_cons.1 hk with rfl | hk; · omega
                       . have := ih k hk; omega
     exact this ks k hkl
    rw [gD] at hx; rw [gu, ih k hkl zO, uD zO zO]; have := ihr (λ k hk => hl k (by simp [hk])) (n + gD k) zO; rw [show ((n : Int) + (gD k : Int)) = ((n + gD k : Nat) : Int) by omega, this]; congr 1
    omega
 rw [gD] at hx ⊢; rw [oo]; have := this ks (λ _ h => h) 1 zO; simpa using this
theorem Bz (l : List Ex) : ∀ s : Nat, s + cp l < 9223372036854775807 -> iH s l = false -> s + cp l <= 300 := by
 induction l with
 | nil =>
   intro s _ h; rw [iH, decide_eq_false_iff_not] at h; simp only [cp]; omega
 | cons x r ih =>
   intro s hs h; rw [cp] at hs ⊢; rw [iH] at h; split at h
   . cases h
   . rw [C2 x zO, uD zO zO, show ((s : Int) + (gD x : Int)) = ((s + gD x : Nat) : Int) by omega] at h; have := ih (s + gD x) zO h; omega
structure rp (prev : List aA) (n : aA) : Prop where
 plain : ∀ i ∈ n.items, i.states = []
 names : ∀ i ∈ n.items, 1 <= i.eq.names.length /\ i.eq.names.length <= 6
 right : ∀ i ∈ n.items, bG true i.eq.e = true
 one : ∀ i ∈ n.items, i.eq.names.length = 1 ∨ i.eq.e.op = 14 ∨ i.eq.e.op = 15
 uses : ∃ s : dJ, s.funs = n.funs /\ s.prog.nodes = prev.map (λ n => (n.name, n)) /\ ∀ i ∈ n.items, dP s i.eq.names.length false i.eq.e = true
 nodup : (aD n).Nodup
 outs : ∀ o ∈ n.outs, o ∈ aD n
 funs : n.funs.Nodup
 few : n.funs.length <= 6 /\ n.ins.length <= 6 /\ n.outs.length <= 6
 size : cp (n.items.map λ i => i.eq.e) <= 300
 fresh : n.name ∉ prev.map aA.name
theorem mj (l : List bd) : ∀ (b : Int) (s : aK) (vars : List Tx) (s' : aK) (vars' : List Tx), d7 b s vars l = .inl (s', vars') -> s'.nodes = s.nodes := by
 induction l with
 | nil => intro b s vars s' vars' h; cases h; rfl
 | cons i r ih =>
   intro b s vars s' vars' h; rw [f9] at h; split at h
   . exact (ih _ _ _ _ _ h).trans rfl
   . cases h
theorem AS (l : List bd) : ∀ (b : Int) (s : aK) (vars : List Tx) (r : aK × List Tx), d7 b s vars l = .inl r -> ∀ i ∈ l, ∃ s1 v1, da s1 v1 i = true := by
 induction l with
 | nil => intro b s vars r _ i hi; cases hi
 | cons x r ih =>
   intro b s vars r' h i hi; rw [f9] at h; split at h
   . rename_i hok; rcases List.mem_cons.1 hi with rfl | hi
     . exact ⟨_, _, hok⟩
     . exact ih _ _ _ _ h i hi
   . cases h
theorem tz (l : List fl) : ∀ (k : Int) (s s' : aK), eG k s l = .inl s' -> s'.nodes = s.nodes := by
 induction l with
 | nil => intro k s s' h; cases h; rfl
 | cons e r ih =>
   intro k s s' h; rw [eG] at h; split at h
   . exact (ih _ _ _ h).trans rfl
   . cases h
theorem Hz (l : List aA) : ∀ (k : Int) (s : aK) (prev : List aA), s.nodes = prev.map (λ n => (n.name, n)) -> eC k s l = (0, 0, 0) -> ∀ (j : Nat) n, l[j]? = some n -> ∃ s0 s' : aK, s0.nodes = (prev ++ l.take j).map (λ n => (n.name, n)) /\ bF s0 n = .inl s' := by
 induction l with
 | nil => intro k s prev _ _ j n h; simp at h
 | cons x r ih =>
   intro k s prev hs h j n hj; cases hx : bF s x with
   | inr b => rw [nR hx] at h; cases h
   | inl s' =>
     rw [lM hx] at h; cases j with
     | zero =>
       simp at hj; subst hj; exact ⟨s, s', by simpa using hs, hx⟩
     | succ j =>
       obtain ⟨_, s1, vars, hi, _, _, e⟩ := lI hx; have hn : s'.nodes = (prev ++ [x]).map (λ n => (n.name, n)) := by
        rw [e]; simp [mj _ _ _ _ _ _ hi, hs]
       obtain ⟨s0, s2, h1, h2⟩ := ih _ _ (prev ++ [x]) hn h j n (by simpa using hj); exact ⟨s0, s2, by rw [h1]; simp, h2⟩
theorem td {p : cy} (h : dE true p = (0, 0, 0)) (hp : fD p <= 1048576) (hs : p.nodes.any gK = false) (k : Nat) (n : aA) (hk : p.nodes[k]? = some n) : rp (p.nodes.take k) n := by
 have hmem : n ∈ p.nodes := List.mem_of_getElem? hk; obtain ⟨_, h0, s, he, hn⟩ := lY (made := true) (p := p) (by rw [h]); obtain ⟨hR, hL⟩ := jR h0; obtain ⟨s0, s', hs0, hstep⟩ := Hz _ _ _ [] (by rw [tz _ _ _ _ he]; rfl) hn k n hk; rw [List.nil_append] at hs0; have hw := Bs hstep; obtain ⟨hh, s1, vars, hi, ho, hu, _⟩ := lI hstep; have hpl : ∀ i ∈ n.items, i.states = [] := λ i hii => by
  rw [List.any_eq_false] at hs; have h1 := hs n hmem; unfold gK at h1; simp only [Bool.not_eq_true, List.any_eq_false, Bool.or_eq_true, not_or] at h1; have h2 := (h1 i hii).1; cases hst : i.states with
  | nil => rfl
  | cons a r => rw [hst] at h2; simp at h2
 unfold lK at hR; rw [Bool.and_eq_true] at hR; have hrn := (cE hR.2).2.2 n hmem; unfold fe at hrn; simp only [Bool.and_eq_true] at hrn; have hfu := cE hrn.2.1; have hin := cE hrn.2.2.1; have hou := cE hrn.2.2.2.1; have hit := cE hrn.2.2.2.2; have hri : ∀ i ∈ n.items, fo true i.eq = true := λ i hii => by
  have h1 := hit.2.2 i hii; unfold cJ at h1; rwa [if_pos (hpl i hii)] at h1
 have hre : ∀ i ∈ n.items, (1 <= i.eq.names.length /\ i.eq.names.length <= 6) /\ bG true i.eq.e = true := λ i hii => by
  have h1 := hri i hii; unfold fo at h1; rw [Bool.and_eq_true] at h1; have h2 := cE h1.1; exact ⟨⟨h2.1, h2.2.1⟩, h1.2⟩
 refine ⟨hpl, λ i hii => (hre i hii).1, λ i hii => (hre i hii).2, λ i hii => ?_, ⟨⟨s1, n.funs, vars⟩, rfl, ?_, λ i hii => ?_⟩, hw.nodup, λ o hoo => (hw.outs o hoo).1, ?_, ⟨hfu.2.1, hin.2.1, hou.2.1⟩, ?_, ?_⟩
 . obtain ⟨s2, v2, h1⟩ := AS _ _ _ _ _ hi i hii; unfold da at h1; rw [Bool.and_eq_true, if_pos (hpl i hii), Bool.or_eq_true, Bool.or_eq_true, beq_iff_eq, beq_iff_eq, beq_iff_eq] at h1; exact h1.2
 . show s1.nodes = _; rw [mj _ _ _ _ _ _ hi, hs0]
 . have h1 := pG _ _ _ hu i hii; rwa [dT, if_pos (hpl i hii)] at h1
 . unfold cN at hh; simp only [Bool.and_eq_true] at hh; have h1 := (kN _ _ List.nodup_nil).1 hh.2.1; rw [List.nil_append] at h1; exact (List.nodup_append.1 h1).1
 . rw [List.any_eq_false] at hL; have h1 := hL n hmem; rw [Bool.not_eq_true] at h1; unfold iG at h1; have h2 : f7 n = n.items.map λ i => i.eq.e := by
    unfold f7; have : ∀ l : List bd, (∀ i ∈ l, i.states = []) -> l.flatMap gT = l.map λ i => i.eq.e := by
     intro l; induction l with
     | nil => intro _; rfl
     | cons x r ih =>
       intro hl; rw [List.flatMap_cons, List.map_cons, ih λ i hi => hl i (by simp [hi])]; unfold gT; rw [if_pos (hl x (by simp)), hl x (by simp)]; rfl
    exact this _ hpl
   rw [h2] at h1; have h3 : cp (n.items.map λ i => i.eq.e) <= 1048576 := by
    have h4 := xd (f := jG) hmem; have h5 : cp (n.items.map λ i => i.eq.e) <= wL iM n.items := by
     have : ∀ l : List bd, cp (l.map λ i => i.eq.e) <= wL iM l := by
      intro l; induction l with
      | nil => simp [cp]
      | cons x r ih =>
        rw [List.map_cons, cp, wL]; have := I6 x.eq.e; simp only [iM, wEq]; omega
     exact this _
    unfold fD at hp; simp only [jG] at h4; omega
   have := Bz _ 0 zO h1; omega
 . unfold cN at hh; simp only [Bool.and_eq_true, Bool.not_eq_true'] at hh; have h1 := hh.1; rw [<- Bool.not_eq_true, List.contains_iff_mem] at h1; intro hm; apply h1; unfold aK.nodeKeys; rw [hs0, List.map_map]; exact hm
end Go.Proofs.YtccihplmmfmonaaGreatDoor
