/-
  Texts joined.
-/
import Derived.Test.YtlhmdjhfmhkllaaGreatDoorKb03
namespace Go.Proofs.YtlhmdjhfmhkllaaGreatDoor
theorem len_two {X : Type} {l : List X} (h : l.length = 2) : ∃ a b, l = [a, b] := by
  rcases l with _ | ⟨a, _ | ⟨b, _ | ⟨c, r⟩⟩⟩ <;> simp at h
  exact ⟨a, b, rfl⟩
theorem len_three {X : Type} {l : List X} (h : l.length = 3) : ∃ a b c, l = [a, b, c] := by
  rcases l with _ | ⟨a, _ | ⟨b, _ | ⟨c, _ | ⟨d, r⟩⟩⟩⟩ <;> simp at h
  exact ⟨a, b, c, rfl⟩
/-- an expression that a text may tell, however many parts it has -/
inductive Good : Ex → Prop where
  | int (n : Int) (h0 : 0 ≤ n) (h1 : n ≤ 9223372036854775807) : Good (.mk 1 [] n [] [])
  | bool (n : Int) (h : n = 0 ∨ n = 1) : Good (.mk 2 [] n [] [])
  | con (c : Tx) (h : conM false c = true) : Good (.mk 3 c 0 [] [])
  | var (x : Tx) (h : nameM false x = true) : Good (.mk 4 x 0 [] [])
  | un (o : Tx) (h : o = notT ∨ o = minusT) (k : Ex) (hk : Good k) : Good (.mk 5 o 0 [] [k])
  | bin (o : Tx) (h : o ∈ binsL) (a b : Ex) (ha : Good a) (hb : Good b) : Good (.mk 6 o 0 [] [a, b])
  | choice (a b c : Ex) (ha : Good a) (hb : Good b) (hc : Good c) : Good (.mk 7 [] 0 [] [a, b, c])
  | fby (a b : Ex) (ha : Good a) (hb : Good b) : Good (.mk 8 [] 0 [] [a, b])
  | pre (k : Ex) (hk : Good k) : Good (.mk 9 [] 0 [] [k])
  | arrow (a b : Ex) (ha : Good a) (hb : Good b) : Good (.mk 10 [] 0 [] [a, b])
  | sample (x c : Tx) (hx : nameM false x = true) (hc : conM false c = true) (k : Ex) (hk : Good k) : Good (.mk 11 x 0 [c] [k])
  | merge (x : Tx) (cs : List Tx) (ks : List Ex) (hx : nameM false x = true) (h0 : ks ≠ []) (hc : ∀ c ∈ cs, conM false c = true) (hl : ks.length = cs.length) (hk : ∀ k, k ∈ ks → Good k) : Good (.mk 12 x 0 cs ks)
  | mtch (x : Tx) (cs : List Tx) (ks : List Ex) (hx : nameM false x = true) (h0 : ks ≠ []) (hc : ∀ c ∈ cs, conM false c = true) (hl : ks.length = cs.length) (hk : ∀ k, k ∈ ks → Good k) : Good (.mk 13 x 0 cs ks)
  | call (x : Tx) (cs : List Tx) (ks : List Ex) (hx : nameM false x = true) (h0 : ks ≠ []) (hc : ∀ c ∈ cs, nameM false c = true) (hk : ∀ k, k ∈ ks → Good k) : Good (.mk 14 x 0 cs ks)
  | every (x : Tx) (cs : List Tx) (ks : List Ex) (b : Ex) (ha : Good (.mk 14 x 0 cs ks)) (hb : Good b) : Good (.mk 15 [] 0 [] [.mk 14 x 0 cs ks, b])
theorem right_good : ∀ x : Ex, rightX false x = true → bndX x → Good x := by
  intro x; induction x using Ex.ind with
  | h op nm n cs ks ih =>
    intro hr hb; rw [rightX, rightXs_all] at hr; simp only [Bool.and_eq_true, List.all_eq_true] at hr; obtain ⟨hs, hk⟩ := hr; rw [bndX, bndXs_all] at hb; obtain ⟨hn, hbk⟩ := hb; have H : ∀ k, k ∈ ks → Good k := fun k hm => ih k hm (hk k hm) (hbk k hm); rcases op_case op with rfl | rfl | rfl | rfl | rfl | rfl | rfl | rfl | rfl | rfl | rfl | rfl | rfl | rfl | rfl | ⟨h1, h2, h3, h4, h5, h6, h7, h8, h9, h10, h11, h12, h13, h14, h15⟩
    · simp [shapeM] at hs; obtain ⟨⟨⟨rfl, h⟩, rfl⟩, rfl⟩ := hs; exact .int n h hn
    · simp [shapeM] at hs; obtain ⟨⟨⟨rfl, h⟩, rfl⟩, rfl⟩ := hs; exact .bool n (by omega)
    · simp [shapeM] at hs; obtain ⟨⟨⟨h, rfl⟩, rfl⟩, rfl⟩ := hs; exact .con nm h
    · simp [shapeM] at hs; obtain ⟨⟨⟨h, rfl⟩, rfl⟩, rfl⟩ := hs; exact .var nm h
    · simp [shapeM] at hs; obtain ⟨⟨⟨h, rfl⟩, rfl⟩, h2⟩ := hs; obtain ⟨k, rfl⟩ := List.length_eq_one_iff.1 h2; exact .un nm h k (H k (by simp))
    · simp [shapeM] at hs; obtain ⟨⟨⟨h, rfl⟩, rfl⟩, h2⟩ := hs; obtain ⟨a, b, rfl⟩ := len_two h2; exact .bin nm h a b (H a (by simp)) (H b (by simp))
    · simp [shapeM] at hs; obtain ⟨⟨⟨rfl, rfl⟩, rfl⟩, h2⟩ := hs; obtain ⟨a, b, c, rfl⟩ := len_three h2; exact .choice a b c (H a (by simp)) (H b (by simp)) (H c (by simp))
    · simp [shapeM] at hs; obtain ⟨⟨⟨rfl, rfl⟩, rfl⟩, h2⟩ := hs; obtain ⟨a, b, rfl⟩ := len_two h2; exact .fby a b (H a (by simp)) (H b (by simp))
    · simp [shapeM] at hs; obtain ⟨⟨⟨rfl, rfl⟩, rfl⟩, h2⟩ := hs; obtain ⟨k, rfl⟩ := List.length_eq_one_iff.1 h2; exact .pre k (H k (by simp))
    · simp [shapeM] at hs; obtain ⟨⟨⟨rfl, rfl⟩, rfl⟩, h2⟩ := hs; obtain ⟨a, b, rfl⟩ := len_two h2; exact .arrow a b (H a (by simp)) (H b (by simp))
    · simp [shapeM] at hs; obtain ⟨⟨⟨h, rfl⟩, hc⟩, h2⟩ := hs; obtain ⟨k, rfl⟩ := List.length_eq_one_iff.1 h2; have hm := allM_mem hc; have hl : cs.length = 1 := (by simp [allM] at hc; omega); obtain ⟨c, rfl⟩ := List.length_eq_one_iff.1 hl; exact .sample nm c h (hm c (by simp)) k (H k (by simp))
    · simp [shapeM] at hs; obtain ⟨⟨⟨h, rfl⟩, hc⟩, h2⟩ := hs; have hm := allM_mem hc; have hl : 1 ≤ cs.length := (by simp [allM] at hc; omega); exact .merge nm cs ks h (by rintro rfl; simp at h2; omega) hm h2 H
    · simp [shapeM] at hs; obtain ⟨⟨⟨h, rfl⟩, hc⟩, h2⟩ := hs; have hm := allM_mem hc; have hl : 1 ≤ cs.length := (by simp [allM] at hc; omega); exact .mtch nm cs ks h (by rintro rfl; simp at h2; omega) hm h2 H
    · simp [shapeM] at hs; obtain ⟨⟨⟨h, rfl⟩, hc⟩, h2⟩ := hs; have hm := allM_mem hc; exact .call nm cs ks h (by rintro rfl; simp at h2) hm H
    · simp [shapeM] at hs; obtain ⟨⟨⟨rfl, rfl⟩, rfl⟩, h2, h3⟩ := hs; obtain ⟨a, b, rfl⟩ := len_two h2; obtain ⟨o, x, m, cs, ks⟩ := a; simp [Ex.op] at h3; subst h3; have hg := H _ (List.mem_cons_self ..); cases hg; exact .every _ _ _ b (H _ (by simp)) (H b (by simp))
    · simp [shapeM, *] at hs
theorem good_bare {x : Ex} (h : Good x) : ∃ u us, toksX x = u :: us ∧ BareT u := by
  have ho : BareT openT := (by unfold BareT; decide); cases h with
  | int n h0 h1 => exact ⟨_, [], by simp [toksX, toksOf], bare_sort (sort_int h0 h1).1 (by omega)⟩
  | bool n h => exact ⟨if n = 1 then trueT else falseT, [], by simp [toksX, toksOf], by rcases h with rfl | rfl <;> (unfold BareT; decide)⟩
  | con c h => exact ⟨c, [], by simp [toksX, toksOf], bare_sort (psort_con h) (by omega)⟩
  | var c h => exact ⟨c, [], by simp [toksX, toksOf], bare_sort (psort_name h) (by omega)⟩
  | un o h k hk => exact ⟨openT, _, by simp [toksX, toksOf, prefixT, openT]; rfl, ho⟩
  | bin o h a b ha hb => exact ⟨openT, _, by simp [toksX, toksOf, infixT, openT]; rfl, ho⟩
  | choice a b c ha hb hc => exact ⟨openT, _, by simp [toksX, toksOf, choiceT, openT]; rfl, ho⟩
  | fby a b ha hb => exact ⟨openT, _, by simp [toksX, toksOf, infixT, openT]; rfl, ho⟩
  | pre k hk => exact ⟨openT, _, by simp [toksX, toksOf, prefixT, openT]; rfl, ho⟩
  | arrow a b ha hb => exact ⟨openT, _, by simp [toksX, toksOf, infixT, openT]; rfl, ho⟩
  | sample x c hx hc k hk => exact ⟨openT, _, by simp [toksX, toksOf, whenT, openT]; rfl, ho⟩
  | merge x cs ks hx h0 hc hl hk => exact ⟨mergeT, _, by simp [toksX, toksOf, armT]; rfl, by unfold BareT; decide⟩
  | mtch x cs ks hx h0 hc hl hk => exact ⟨matchT, _, by simp [toksX, toksOf, armT]; rfl, by unfold BareT; decide⟩
  | call x cs ks hx h0 hc hk => exact ⟨x, _, by simp [toksX, toksOf, callT]; rfl, bare_sort (psort_name hx) (by omega)⟩
  | every x cs ks b ha hb => exact ⟨openT, _, by simp [toksX, toksOf, infixT, openT]; rfl, ho⟩
theorem dN_kid {op n : Int} {nm : Tx} {cs : List Tx} {ks : List Ex} {k : Ex} (h : k ∈ ks) : dN k + 1 ≤ dN (.mk op nm n cs ks) := by
  rw [dN]; have := dNs_le h; omega
/-- what an expression's kids are good for -/
def KidOk (f : Nat) (x : Ex) : Prop := AtomG f x ∧ UnG f x ∧ OpG f x
theorem kid_ev {x : Ex} (h : Ev fun f => AtomG f x) (hb : ∃ u us, toksX x = u :: us ∧ BareT u) : Ev fun f => KidOk f x := by
  obtain ⟨F, h⟩ := h; obtain ⟨u, us, hx, hu⟩ := hb; refine ⟨F + 9, fun f hf => ⟨h f (by omega), ?_, ?_⟩⟩
  · obtain ⟨g, rfl⟩ : ∃ g, f = g + 1 := ⟨f - 1, by omega⟩; exact un_of_atom (h g (by omega)) hx hu
  · exact op_of_un (g := F + 1) (un_of_atom (h F (Nat.le_refl _)) hx hu) (by omega)
def CalmT (s : Tx) : Prop := s ≠ whenT' ∧ s ≠ everyT ∧ s ≠ openT ∧ s ≠ openB
instance : DecidablePred CalmT := fun s => inferInstanceAs (Decidable (s ≠ whenT' ∧ s ≠ everyT ∧ s ≠ openT ∧ s ≠ openB))
theorem calm_of {s : Tx} (h : CalmT s) {t : Tok} (ht : t.text = s) : Calm t := by unfold Calm; rw [ht]; exact h
/-- what may stand behind an expression -/
def Stop (t : Tok) : Prop := CalmT t.text ∧ strongT t.text = 0
theorem stop_of {s : Tx} (h : CalmT s ∧ strongT s = 0) {t : Tok} (ht : t.text = s) : Stop t := by unfold Stop; rw [ht]; exact h
theorem Stop.calm {t : Tok} (h : Stop t) : Calm t := h.1
theorem Stop.weak {t : Tok} (h : Stop t) {s : Nat} (hs : 1 ≤ s) : ∀ j, s ≤ j → j ≤ 7 → strongT t.text ≠ j := fun j h1 _ => by rw [h.2]; omega
theorem stop_shut {t : Tok} (ht : t.text = shutT) : Stop t := stop_of (by decide) ht
theorem paren_ok {f o : Nat} {x : Ex} {inner : List Tx} {ps : List Tok} {t : Tok} {r : List Tok} (hE : ∀ q c, IsT shutT c → Begs inner q (c :: t :: r) → opX f 1 q o = some (.ok x (c :: t :: r))) (h : Begs (openT :: (inner ++ [shutT])) ps (t :: r)) : atomP (opX f 1) o ps = some (.ok x (t :: r)) := by
  have h' := h; obtain ⟨v, q, rfl, hv, _⟩ := h'; have hs : v.sort = 4 := (by rw [hv.2.1]; decide +kernel); rw [atomP, if_neg (by rw [hs]; decide), if_neg (by rw [hs]; decide), if_neg (by rw [hs]; decide), if_neg (by rw [hv.1]; decide), if_neg (by rw [hv.1]; decide), if_neg (by rw [hv.1]; decide), if_neg (by rw [hv.1]; decide), if_pos hv.1]; exact enclosed_ok (R := t :: r) (fun q c hc hb => hE q c hc hb) h (by simp)
theorem up_ok {g o : Nat} {ps : List Tok} {x : Ex} {t : Tok} {r : List Tok} (h : unX g ps o = some (.ok x (t :: r))) (ht : Stop t) : opX (g + 8) 1 ps o = some (.ok x (t :: r)) := op_up h 7 1 rfl (ht.weak (Nat.le_refl _))
theorem unX_bare {g o : Nat} {v : Tok} {q : List Tok} (ho : o < 100) (hv : BareT v.text) : unX (g + 1) (v :: q) o = sampledP (unX g) (opX g 1) (o + 1) (v :: q) := by
  rw [unX, if_neg (by omega), prefixedP, if_neg hv.1, if_neg hv.2.1, if_neg hv.2.2.1, if_neg hv.2.2.2]
theorem when_stop {g : Nat} {e : Ex} {t : Tok} {r : List Tok} (h : t.text ≠ whenT') : whenP (g + 1) e (t :: r) = some (.ok e (t :: r)) := by rw [whenP, if_neg h]
/-- an operator between two operands -/
theorem infix_ok {F : Nat} {a b : Ex} {w : Tx} {s : Nat} (hs : strongT w = s) (h1 : 1 ≤ s) (h7 : s ≤ 7) (hw : CalmT w) (ha : ∀ f, F ≤ f → OpG f a) (hb : ∀ f, F ≤ f → OpG f b) {f o : Nat} (hf : F + 12 ≤ f) (hoa : o + 2 * dN a ≤ 101) (hob : o + 2 * dN b ≤ 101)
    {q : List Tok} {c : Tok} {R : List Tok} (hc : Stop c) (h : Begs (toksX a ++ w :: toksX b) q (c :: R)) : opX f 1 q o = some (.ok (operE w a b) (c :: R)) := by
  obtain ⟨m, hA, hB⟩ := begs_app h; obtain ⟨v, m', rfl, hv, hB⟩ := hB; have hm : m' ≠ [] := begs_ne hB (by simp); obtain ⟨g, rfl⟩ : ∃ g, f = (g + 3) + (s - 1) := ⟨f - (s - 1) - 3, by omega⟩; refine op_down (s := s) ?_ (by omega) (by omega) (s - 1) 1 (by omega) (hc.weak (Nat.le_refl _)); have hst : strongT v.text = s := (by rw [hv.1]; exact hs); rw [opX, if_neg (by omega), ha (g + 2) (by omega) (s + 1) o q v m' (by omega) (by omega) hoa (calm_of hw hv.1) (fun j h2 _ => by rw [hst]; omega) hA, bindP_ok, loopX, if_pos hst, if_neg hm]; by_cases h12 : s = 1 ∨ s = 2
  · rw [if_pos h12, hb (g + 1) (by omega) s o m' c R h1 (by omega) hob hc.calm (hc.weak h1) hB, bindP_ok, hv.1]
  · rw [if_neg h12]; by_cases h5 : s = 5
    · rw [if_pos h5, hb (g + 1) (by omega) (s + 1) o m' c R (by omega) (by omega) hob hc.calm (hc.weak (by omega)) hB, bindP_ok, hv.1]
    · rw [if_neg h5, hb (g + 1) (by omega) (s + 1) o m' c R (by omega) (by omega) hob hc.calm (hc.weak (by omega)) hB, bindP_ok, loop_stop (by rw [hc.2]; omega), hv.1]
theorem bins_strong : ∀ o ∈ binsL, 3 ≤ strongT o ∧ strongT o ≤ 7 ∧ o ≠ arrowT ∧ o ≠ fbyT ∧ CalmT o := by decide
theorem bin_oper {o : Tx} (h : o ∈ binsL) (a b : Ex) : operE o a b = .mk 6 o 0 [] [a, b] := by
  obtain ⟨_, _, h1, h2, _⟩ := bins_strong o h; rw [operE, if_neg h1, if_neg h2]
theorem arms_zip : ∀ (cs : List Tx) (ks : List Ex), armsT cs (ks.map toksX) = (cs.zip ks).map fun y => y.1 :: arrowT :: toksX y.2
  | [], _ => by simp [armsT]
  | c :: cs, [] => by simp [armsT]
  | c :: cs, k :: ks => by rw [List.map_cons, armsT, arms_zip cs ks]; rfl
/-- the arms of a merge or a match -/
theorem choices_ok {F : Nat} {op : Int} {x : Tx} {cs : List Tx} {ks : List Ex} (hx : nameM false x = true) (h0 : ks ≠ []) (hc : ∀ c ∈ cs, conM false c = true) (hl : ks.length = cs.length) (hk : ∀ f, F ≤ f → ∀ k ∈ ks, OpG f k) {f o : Nat} (hf : F ≤ f) (ho : ∀ k ∈ ks, o + 2 * dN k ≤ 101)
    {q : List Tok} {t : Tok} {r : List Tok} (h : Begs (x :: openT :: (sepT barT (armsT cs (ks.map toksX)) ++ [shutT])) q (t :: r)) : choicesP (opX f 1) op o q = some (.ok (.mk op x 0 cs ks) (t :: r)) := by
  obtain ⟨q1, e1, h1⟩ := name_ok hx h (by simp); rw [choicesP, e1, bindP_ok, arms_zip] at *; have hz : cs.zip ks ≠ [] := by
    intro e; have h2 := congrArg List.length e; rw [List.length_zip, List.length_nil] at h2; have := List.length_pos_iff.2 h0; omega
  rw [enclosed_ok (x := cs.zip ks) (fun q c hcc hb => separated_ok (Q := Stop) (fun u hu => stop_of (by decide) hu) (by rw [hcc.1]; decide) (stop_shut hcc.1) hz (fun y hy ps t r hQ hB => ?_) hb) h1 (by simp), bindP_ok]
  · rw [List.map_fst_zip (by omega), List.map_snd_zip (by omega)]
  · obtain ⟨c, k⟩ := y; have hm := List.of_mem_zip hy; obtain ⟨q2, e2, h2⟩ := con_ok (hc c hm.1) hB (by simp); obtain ⟨q3, e3, h3⟩ := want_ok h2 (by simp); rw [armP, e2, bindP_ok, e3, bindP_ok, hk f hf k hm.2 1 o q3 t r (by omega) (by omega) (ho k hm.2) hQ.calm (hQ.weak (Nat.le_refl _)) h3, bindP_ok]
theorem atom_ev {x : Ex} (h : Good x) : Ev fun f => AtomG f x := by
  induction h with
  | int n h0 h1 =>
    refine .of fun f o ps t r ho _ _ h => ?_; rw [show toksX (.mk 1 [] n [] []) = [Lib.itoa n] by simp [toksX, toksOf]] at h; obtain ⟨v, rfl, hv⟩ := begs_one h; rw [atomP, if_pos (by rw [hv.2.1, (sort_int h0 h1).1]), if_neg (by simp), hv.2.2, (sort_int h0 h1).2]
  | bool n hn =>
    refine .of fun f o ps t r ho _ _ h => ?_; rw [show toksX (.mk 2 [] n [] []) = [if n = 1 then trueT else falseT] by simp [toksX, toksOf]] at h; obtain ⟨v, rfl, hv⟩ := begs_one h; rcases hn with rfl | rfl
    · rw [if_neg (by decide)] at hv; have hs : v.sort = 5 := (by rw [hv.2.1]; decide +kernel); rw [atomP, if_neg (by rw [hs]; decide), if_neg (by rw [hs]; decide), if_neg (by rw [hs]; decide), if_neg (by rw [hv.1]; decide), if_pos hv.1, if_neg (by simp)]
    · rw [if_pos rfl] at hv; have hs : v.sort = 5 := (by rw [hv.2.1]; decide +kernel); rw [atomP, if_neg (by rw [hs]; decide), if_neg (by rw [hs]; decide), if_neg (by rw [hs]; decide), if_pos hv.1, if_neg (by simp)]
  | con c hc =>
    refine .of fun f o ps t r ho _ _ h => ?_; rw [show toksX (.mk 3 c 0 [] []) = [c] by simp [toksX, toksOf]] at h; obtain ⟨q, e, h1⟩ := con_ok hc h (by simp); obtain ⟨v, rfl, hv⟩ := begs_one h; rw [Begs] at h1; rw [atomP, if_neg (by rw [hv.2.1, psort_con hc]; decide), if_pos (by rw [hv.2.1, psort_con hc]), e, bindP_ok, h1]
  | var c hc =>
    refine .of fun f o ps t r ho n1 n2 h => ?_; rw [show toksX (.mk 4 c 0 [] []) = [c] by simp [toksX, toksOf]] at h; obtain ⟨q, e, h1⟩ := name_ok hc h (by simp); obtain ⟨v, rfl, hv⟩ := begs_one h; rw [Begs] at h1; have hs := psort_name hc; rw [atomP, if_neg (by rw [hv.2.1, hs]; decide), if_neg (by rw [hv.2.1, hs]; decide), if_pos (by rw [hv.2.1, hs]), namedP, e, bindP_ok, h1, if_neg (by simp), if_pos (by simp [atP, n1, n2])]
  | un u hu k hk ih =>
    obtain ⟨F, ih⟩ := kid_ev ih (good_bare hk); refine ⟨F + 12, fun f hf o ps t r ho _ _ h => ?_⟩; have hd := dN_kid (op := 5) (nm := u) (n := 0) (cs := []) (List.mem_singleton_self k); have hp := dN_pos k; rw [show toksX (.mk 5 u 0 [] [k]) = openT :: ((u :: toksX k) ++ [shutT]) by simp [toksX, toksXs, toksOf, prefixT, kidT, openT, shutT]] at h; refine paren_ok (fun q c hc hb => ?_) h; obtain ⟨g, rfl⟩ : ∃ g, f = (g + 1) + 8 := ⟨f - 9, by omega⟩; refine up_ok ?_ (stop_shut hc.1); obtain ⟨v, q, rfl, hv, hb⟩ := hb; have hq := begs_ne hb (by simp); have hU := (ih g (by omega)).2.1 (o + 1) q c (t :: r) (by omega) (stop_shut hc.1).calm hb; rw [unX, if_neg (by omega), prefixedP]; rcases hu with rfl | rfl
    · rw [if_pos hv.1, if_neg hq, hU, bindP_ok, hv.1]
    · rw [if_neg (by rw [hv.1]; decide), if_pos hv.1, if_neg hq, hU, bindP_ok, hv.1]
  | bin w hw a b ga gb iha ihb =>
    obtain ⟨F, ih⟩ := (kid_ev iha (good_bare ga)).and (kid_ev ihb (good_bare gb)); refine ⟨F + 12, fun f hf o ps t r ho _ _ h => ?_⟩; have hda := dN_kid (op := 6) (nm := w) (n := 0) (cs := []) (show a ∈ [a, b] by simp); have hdb := dN_kid (op := 6) (nm := w) (n := 0) (cs := []) (show b ∈ [a, b] by simp); rw [show toksX (.mk 6 w 0 [] [a, b]) = openT :: ((toksX a ++ w :: toksX b) ++ [shutT]) by simp [toksX, toksXs, toksOf, infixT, kidT, openT, shutT]] at h; refine paren_ok (fun q c hc hb => ?_) h; obtain ⟨s1, s2, _, _, s3⟩ := bins_strong w hw; rw [infix_ok rfl (by omega) s2 s3 (fun f hf => (ih f hf).1.2.2) (fun f hf => (ih f hf).2.2.2) hf (by omega) (by omega) (stop_shut hc.1) hb, bin_oper hw]
  | choice a b c ga gb gc iha ihb ihc =>
    obtain ⟨F, ih⟩ := ((kid_ev iha (good_bare ga)).and (kid_ev ihb (good_bare gb))).and (kid_ev ihc (good_bare gc)); refine ⟨F + 12, fun f hf o ps t r ho _ _ h => ?_⟩; have hda := dN_kid (op := 7) (nm := []) (n := 0) (cs := []) (show a ∈ [a, b, c] by simp); have hdb := dN_kid (op := 7) (nm := []) (n := 0) (cs := []) (show b ∈ [a, b, c] by simp); have hdc := dN_kid (op := 7) (nm := []) (n := 0) (cs := []) (show c ∈ [a, b, c] by simp); have hp := dN_pos a; rw [show toksX (.mk 7 [] 0 [] [a, b, c]) = openT :: ((ifT :: (toksX a ++ thenT :: (toksX b ++ elseT :: toksX c))) ++ [shutT]) by simp [toksX, toksXs, toksOf, choiceT, kidT, openT, shutT, ifT, thenT, elseT]] at h; refine paren_ok (fun q z hz hb => ?_) h; obtain ⟨g, rfl⟩ : ∃ g, f = (g + 1) + 8 := ⟨f - 9, by omega⟩; refine up_ok ?_ (stop_shut hz.1); have hb' := hb; obtain ⟨v, q, rfl, hv, _⟩ := hb'; obtain ⟨q1, e1, h1⟩ := want_ok hb (by simp); obtain ⟨m1, ha, h2⟩ := begs_app h1; obtain ⟨q2, e2, h3⟩ := want_ok h2 (by simp); obtain ⟨v1, m1, rfl, hv1, _⟩ := h2; obtain ⟨m2, hbb, h4⟩ := begs_app h3; obtain ⟨q3, e3, h5⟩ := want_ok h4 (by simp); obtain ⟨v2, m2, rfl, hv2, _⟩ := h4; have S1 : Stop v1 := stop_of (by decide) hv1.1; have S2 : Stop v2 := stop_of (by decide) hv2.1; have S3 := stop_shut hz.1
    rw [unX, if_neg (by omega), prefixedP, if_neg (by rw [hv.1]; decide), if_neg (by rw [hv.1]; decide), if_neg (by rw [hv.1]; decide), if_pos hv.1, choiceP, e1, bindP_ok,
      (ih g (by omega)).1.1.2.2 1 (o + 1) q1 v1 m1 (by omega) (by omega) (by omega) S1.calm (S1.weak (Nat.le_refl _)) ha, bindP_ok, e2, bindP_ok,
      (ih g (by omega)).1.2.2.2 1 (o + 1) q2 v2 m2 (by omega) (by omega) (by omega) S2.calm (S2.weak (Nat.le_refl _)) hbb, bindP_ok, e3, bindP_ok,
      (ih g (by omega)).2.2.2 1 (o + 1) q3 z (t :: r) (by omega) (by omega) (by omega) S3.calm (S3.weak (Nat.le_refl _)) h5, bindP_ok]
  | fby a b ga gb iha ihb =>
    obtain ⟨F, ih⟩ := (kid_ev iha (good_bare ga)).and (kid_ev ihb (good_bare gb)); refine ⟨F + 12, fun f hf o ps t r ho _ _ h => ?_⟩; have hda := dN_kid (op := 8) (nm := []) (n := 0) (cs := []) (show a ∈ [a, b] by simp); have hdb := dN_kid (op := 8) (nm := []) (n := 0) (cs := []) (show b ∈ [a, b] by simp); rw [show toksX (.mk 8 [] 0 [] [a, b]) = openT :: ((toksX a ++ fbyT :: toksX b) ++ [shutT]) by simp [toksX, toksXs, toksOf, infixT, kidT, openT, shutT]] at h; refine paren_ok (fun q c hc hb => ?_) h; rw [infix_ok (s := 2) (by decide) (by omega) (by omega) (by decide) (fun f hf => (ih f hf).1.2.2) (fun f hf => (ih f hf).2.2.2) hf (by omega) (by omega) (stop_shut hc.1) hb, operE, if_neg (by decide), if_pos rfl]
  | pre k hk ih =>
    obtain ⟨F, ih⟩ := kid_ev ih (good_bare hk); refine ⟨F + 12, fun f hf o ps t r ho _ _ h => ?_⟩; have hd := dN_kid (op := 9) (nm := []) (n := 0) (cs := []) (List.mem_singleton_self k); have hp := dN_pos k; rw [show toksX (.mk 9 [] 0 [] [k]) = openT :: ((preT :: toksX k) ++ [shutT]) by simp [toksX, toksXs, toksOf, prefixT, kidT, openT, shutT]] at h; refine paren_ok (fun q c hc hb => ?_) h; obtain ⟨g, rfl⟩ : ∃ g, f = (g + 1) + 8 := ⟨f - 9, by omega⟩; refine up_ok ?_ (stop_shut hc.1); obtain ⟨v, q, rfl, hv, hb⟩ := hb; have hq := begs_ne hb (by simp); have hU := (ih g (by omega)).2.1 (o + 1) q c (t :: r) (by omega) (stop_shut hc.1).calm hb; rw [unX, if_neg (by omega), prefixedP, if_neg (by rw [hv.1]; decide), if_neg (by rw [hv.1]; decide), if_pos hv.1, if_neg hq, hU, bindP_ok]
  | arrow a b ga gb iha ihb =>
    obtain ⟨F, ih⟩ := (kid_ev iha (good_bare ga)).and (kid_ev ihb (good_bare gb)); refine ⟨F + 12, fun f hf o ps t r ho _ _ h => ?_⟩; have hda := dN_kid (op := 10) (nm := []) (n := 0) (cs := []) (show a ∈ [a, b] by simp); have hdb := dN_kid (op := 10) (nm := []) (n := 0) (cs := []) (show b ∈ [a, b] by simp); rw [show toksX (.mk 10 [] 0 [] [a, b]) = openT :: ((toksX a ++ arrowT :: toksX b) ++ [shutT]) by simp [toksX, toksXs, toksOf, infixT, kidT, openT, shutT]] at h; refine paren_ok (fun q c hc hb => ?_) h; rw [infix_ok (s := 1) (by decide) (by omega) (by omega) (by decide) (fun f hf => (ih f hf).1.2.2) (fun f hf => (ih f hf).2.2.2) hf (by omega) (by omega) (stop_shut hc.1) hb, operE, if_pos rfl]
  | sample x c hx hc k hk ih =>
    obtain ⟨F, ih⟩ := kid_ev ih (good_bare hk); obtain ⟨u, us, hu, hbare⟩ := good_bare hk; refine ⟨F + 12, fun f hf o ps t r ho _ _ h => ?_⟩; have hd := dN_kid (op := 11) (nm := x) (n := 0) (cs := [c]) (List.mem_singleton_self k); have hp := dN_pos k; rw [show toksX (.mk 11 x 0 [c] [k]) = openT :: ((toksX k ++ [whenT', c, openT, x, shutT]) ++ [shutT]) by simp [toksX, toksXs, toksOf, whenT, kidT, namesT, sepT, openT, shutT, whenT']] at h; refine paren_ok (fun q z hz hb => ?_) h; obtain ⟨g, rfl⟩ : ∃ g, f = (g + 1) + 8 := ⟨f - 9, by omega⟩; refine up_ok ?_ (stop_shut hz.1); obtain ⟨m, h1, h2⟩ := begs_app hb; have h1' := h1; rw [hu] at h1'; obtain ⟨v, q, rfl, hv, _⟩ := h1'; obtain ⟨w, m, rfl, hw, h3⟩ := h2; obtain ⟨q4, e4, h4⟩ := con_ok hc h3 (by simp); obtain ⟨q5, e5, h5⟩ := want_ok h4 (by simp); obtain ⟨q6, e6, h6⟩ := name_ok hx h5 (by simp); obtain ⟨q7, e7, h7⟩ := want_ok h6 (by simp); rw [Begs] at h7; rw [unX_bare (by omega) (by rw [hv.1]; exact hbare), sampledP, (ih g (by omega)).1 (o + 1) (v :: q) w m (by omega) (by rw [hw.1]; decide) (by rw [hw.1]; decide) h1, bindP_ok, if_neg (by rw [atP, hw.1]; simp [whenT', everyT]), List.length_cons, whenP, if_pos hw.1, if_neg (begs_ne h3 (by simp)), e4, bindP_ok, enclosedP, e5, bindP_ok, e6, bindP_ok, e7, bindP_ok, bindP_ok, h7, when_stop (by rw [hz.1]; decide)]
  | merge x cs ks hx h0 hc hl hk ih =>
    obtain ⟨F, ih⟩ := Ev.all (p := fun k f => KidOk f k) fun k hm => kid_ev (ih k hm) (good_bare (hk k hm)); refine ⟨F, fun f hf o ps t r ho _ _ h => ?_⟩; rw [show toksX (.mk 12 x 0 cs ks) = mergeT :: (x :: openT :: (sepT barT (armsT cs (ks.map toksX)) ++ [shutT])) by simp [toksX_mk, toksOf, armT, openT, shutT, barT]] at h; obtain ⟨v, q, rfl, hv, h⟩ := h; have hs : v.sort = 5 := (by rw [hv.2.1]; decide +kernel); rw [atomP, if_neg (by rw [hs]; decide), if_neg (by rw [hs]; decide), if_neg (by rw [hs]; decide), if_neg (by rw [hv.1]; decide), if_neg (by rw [hv.1]; decide), if_pos hv.1, if_neg (begs_ne h (by simp))]; exact choices_ok hx h0 hc hl (fun f hf k hm => (ih f hf k hm).2.2) hf (fun k hm => by have := dN_kid (op := 12) (nm := x) (n := 0) (cs := cs) hm; omega) h
  | mtch x cs ks hx h0 hc hl hk ih =>
    obtain ⟨F, ih⟩ := Ev.all (p := fun k f => KidOk f k) fun k hm => kid_ev (ih k hm) (good_bare (hk k hm)); refine ⟨F, fun f hf o ps t r ho _ _ h => ?_⟩; rw [show toksX (.mk 13 x 0 cs ks) = matchT :: (x :: openT :: (sepT barT (armsT cs (ks.map toksX)) ++ [shutT])) by simp [toksX_mk, toksOf, armT, openT, shutT, barT]] at h; obtain ⟨v, q, rfl, hv, h⟩ := h; have hs : v.sort = 5 := (by rw [hv.2.1]; decide +kernel); rw [atomP, if_neg (by rw [hs]; decide), if_neg (by rw [hs]; decide), if_neg (by rw [hs]; decide), if_neg (by rw [hv.1]; decide), if_neg (by rw [hv.1]; decide), if_neg (by rw [hv.1]; decide), if_pos hv.1, if_neg (begs_ne h (by simp))]; exact choices_ok hx h0 hc hl (fun f hf k hm => (ih f hf k hm).2.2) hf (fun k hm => by have := dN_kid (op := 13) (nm := x) (n := 0) (cs := cs) hm; omega) h
  | call x cs ks hx h0 hc hk ih =>
    obtain ⟨F, ih⟩ := Ev.all (p := fun k f => KidOk f k) fun k hm => kid_ev (ih k hm) (good_bare (hk k hm)); refine ⟨F, fun f hf o ps t r ho _ _ h => ?_⟩; rw [show toksX (.mk 14 x 0 cs ks) = x :: (staticsT cs ++ openT :: (sepT commaT (ks.map toksX) ++ [shutT])) by simp [toksX_mk, toksOf, callT, openT, shutT, commaT]] at h; have h' := h; obtain ⟨v, q, rfl, hv, _⟩ := h'; have hs := psort_name hx; obtain ⟨q1, e1, h1⟩ := name_ok hx h (by simp); obtain ⟨q2, e2, h2⟩ := statics_ok hc (by decide) h1 (by simp); have hat : ¬(atP openB q1 = false ∧ atP openT q1 = false) := by
      by_cases hcs : cs = []
      · rw [staticsT, if_pos hcs, List.nil_append] at h1; rw [at_ok (s := openT) h1]; simp
      · rw [staticsT, if_neg hcs, List.cons_append] at h1; rw [at_ok (s := openB) h1]; simp [openB]
    rw [atomP, if_neg (by rw [hv.2.1, hs]; decide), if_neg (by rw [hv.2.1, hs]; decide), if_pos (by rw [hv.2.1, hs]), namedP, e1, bindP_ok, if_neg (begs_ne h1 (by simp)), if_neg hat, e2, bindP_ok,
      enclosed_ok (x := ks) (fun q c hcc hb => separated_ok (Q := Stop) (fun u hu => stop_of (by decide) hu) (by rw [hcc.1]; decide) (stop_shut hcc.1) h0 (fun y hy ps t r hQ hB => (ih f hf y hy).2.2 1 o ps t r (by omega) (by omega) (by have := dN_kid (op := 14) (nm := x) (n := 0) (cs := cs) hy; omega) hQ.calm (hQ.weak (Nat.le_refl _)) hB) hb) h2 (by simp), bindP_ok]
  | every x cs ks b ga gb iha ihb =>
    obtain ⟨u, us, hu, hbare⟩ := good_bare ga; obtain ⟨F, ih⟩ := (kid_ev iha (good_bare ga)).and (kid_ev ihb (good_bare gb)); refine ⟨F + 12, fun f hf o ps t r ho _ _ h => ?_⟩; have hda := dN_kid (op := 15) (nm := []) (n := 0) (cs := []) (show Ex.mk 14 x 0 cs ks ∈ [Ex.mk 14 x 0 cs ks, b] by simp); have hdb := dN_kid (op := 15) (nm := []) (n := 0) (cs := []) (show b ∈ [Ex.mk 14 x 0 cs ks, b] by simp); have hp := dN_pos b; rw [show toksX (.mk 15 [] 0 [] [.mk 14 x 0 cs ks, b]) = openT :: ((toksX (.mk 14 x 0 cs ks) ++ everyT :: toksX b) ++ [shutT]) by rw [toksX_mk]; simp [toksOf, infixT, kidT, openT, shutT]] at h; refine paren_ok (fun q z hz hb => ?_) h; obtain ⟨g, rfl⟩ : ∃ g, f = (g + 1) + 8 := ⟨f - 9, by omega⟩; refine up_ok ?_ (stop_shut hz.1); obtain ⟨m, h1, h2⟩ := begs_app hb; have h1' := h1; rw [hu] at h1'; obtain ⟨v, q, rfl, hv, _⟩ := h1'; obtain ⟨w, m, rfl, hw, h3⟩ := h2; have hU := (ih g (by omega)).2.2.1 (o + 1) m z (t :: r) (by omega) (stop_shut hz.1).calm h3; rw [unX_bare (by omega) (by rw [hv.1]; exact hbare), sampledP, (ih g (by omega)).1.1 (o + 1) (v :: q) w m (by omega) (by rw [hw.1]; decide) (by rw [hw.1]; decide) h1, bindP_ok, if_pos ⟨rfl, by rw [atP, hw.1]; simp⟩, List.tail_cons, if_neg (begs_ne h3 (by simp)), hU, bindP_ok, List.length_cons, when_stop (by rw [hz.1]; decide)]
/-- an expression's tokens are parsed as it, where no unary is open -/
theorem op_ev {x : Ex} (h : Good x) : Ev fun f => OpG f x := (kid_ev (atom_ev h) (good_bare h)).mono fun _ h => h.2.2
end Go.Proofs.YtlhmdjhfmhkllaaGreatDoor

namespace Go.Proofs.YtlhmdjhfmhkllaaGreatDoor
/-- parts one behind the other, told by what each is -/
theorem rep_ok {X : Type} {B : List Tok → Bool} {E : List Tok → Pr X} {T : X → List Tx} {Q : Tok → Prop} {t : Tok} {r : List Tok} (hB : B (t :: r) = false) (hQt : Q t) : ∀ (l : List X) (g : Nat) (acc : List X) (ps : List Tok),
    (∀ x ∈ l, ∀ ps t r, Begs (T x) ps (t :: r) → ∃ v q, ps = v :: q ∧ Q v ∧ B ps = true) →
    (∀ x ∈ l, ∀ ps t r, Q t → Begs (T x) ps (t :: r) → E ps = some (.ok x (t :: r))) → l.length < g → Begs (l.flatMap T) ps (t :: r) → repeatP B E g acc ps = some (.ok (acc ++ l) (t :: r))
  | [], g, acc, ps, _, _, hg, h => by
    obtain ⟨g, rfl⟩ : ∃ k, g = k + 1 := ⟨g - 1, by simp at hg; omega⟩
    rw [List.flatMap_nil, Begs] at h
    subst h
    rw [repeatP, if_neg (by simp), if_neg (by rw [hB]; decide), List.append_nil]
  | y :: m, g, acc, ps, hh, hE, hg, h => by
    obtain ⟨g, rfl⟩ : ∃ k, g = k + 1 := ⟨g - 1, by simp at hg; omega⟩
    rw [List.flatMap_cons] at h
    obtain ⟨q2, h1, h2⟩ := begs_app h
    have hq2 : ∃ t2 r2, q2 = t2 :: r2 ∧ Q t2 := by
      cases m with
      | nil => rw [List.flatMap_nil, Begs] at h2; exact ⟨t, r, h2, hQt⟩
      | cons z m =>
        rw [List.flatMap_cons] at h2; obtain ⟨q3, h3, h4⟩ := begs_app h2; have hq3 : ∃ t3 r3, q3 = t3 :: r3 := by
          have := begs_ne h4 (by simp); exact List.exists_cons_of_ne_nil this
        obtain ⟨t3, r3, rfl⟩ := hq3; obtain ⟨v, q, e, hv, _⟩ := hh z (by simp) q2 t3 r3 h3; exact ⟨v, q, e, hv⟩
    obtain ⟨t2, r2, rfl, hQ2⟩ := hq2; obtain ⟨v, q, e, _, hb⟩ := hh y (by simp) ps t2 r2 h1; rw [repeatP, if_neg (by rw [e]; simp), if_pos hb, hE y (by simp) ps t2 r2 hQ2 h1, bindP_ok, rep_ok hB hQt m g (acc ++ [y]) _ (fun x hx => hh x (by simp [hx])) (fun x hx => hE x (by simp [hx])) (by simp at hg; omega) h2]; simp
theorem repeated_ok {X : Type} {B : List Tok → Bool} {E : List Tok → Pr X} {T : X → List Tx} {Q : Tok → Prop} {t : Tok} {r : List Tok} (hB : B (t :: r) = false) (hQt : Q t) {l : List X} {ps : List Tok}
    (hh : ∀ x ∈ l, ∀ ps t r, Begs (T x) ps (t :: r) → ∃ v q, ps = v :: q ∧ Q v ∧ B ps = true) (hT : ∀ x ∈ l, T x ≠ [])
    (hE : ∀ x ∈ l, ∀ ps t r, Q t → Begs (T x) ps (t :: r) → E ps = some (.ok x (t :: r))) (h : Begs (l.flatMap T) ps (t :: r)) : repeatedP B E ps = some (.ok l (t :: r)) := by
  have hlen := begs_len h; have hm : l.length ≤ (l.flatMap T).length := by
    clear h hE hh hlen; induction l with
    | nil => simp
    | cons z m ih =>
      have := List.length_pos_iff.2 (hT z (by simp)); have := ih fun x hx => hT x (by simp [hx]); simp only [List.flatMap_cons, List.length_append, List.length_cons]; omega
  rw [repeatedP, rep_ok hB hQt l _ [] ps hh hE (by omega) h]; rfl
section
variable {f : Nat}
theorem eqT_ne (q : QEq) : eqT q ≠ [] := by
  unfold eqT; split <;> simp
end
/-- the end of all tokens -/
def IsEnd (t : Tok) : Prop := t.text = [] ∧ t.sort = 6
theorem flat_len {X : Type} {T : X → List Tx} (hT : ∀ x, T x ≠ []) : ∀ l : List X, l.length ≤ (l.flatMap T).length
  | [] => by simp
  | x :: l => by
    have := List.length_pos_iff.2 (hT x)
    have := flat_len hT l
    simp only [List.flatMap_cons, List.length_append, List.length_cons]
    omega
end Go.Proofs.YtlhmdjhfmhkllaaGreatDoor
