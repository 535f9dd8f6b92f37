/-
  Texts joined.
-/
import Derived.Lib.ItoaLen
import Derived.Test.YtlhmdjhfmhkllaaGreatDoorKb03
import Derived.Test.YtlhmdjhfmhkllaaGreatDoorKb06
import Derived.Test.YtlhmdjhfmhkllaaGreatDoorKb09
import Derived.Test.YtlhmdjhfmhkllaaGreatDoorKb12
namespace Go.Proofs.YtlhmdjhfmhkllaaGreatDoor
theorem wN_app (a b : List Tx) : wN (a ++ b) = wN a + wN b := by
  induction a with
  | nil => simp [wN]
  | cons x r ih => simp [wN, ih]; omega
theorem wN_cons (x : Tx) (r : List Tx) : wN (x :: r) = x.length + 1 + wN r := rfl
theorem wN_nil : wN [] = 0 := rfl
theorem putL_wN (ts : List Tx) : ∀ g, (putL g ts).length ≤ wN ts := by
  induction ts with
  | nil => intro g; simp [putL, wN]
  | cons t r ih =>
    intro g; have h1 := ih true; cases g <;> simp [putL, wN] <;> omega
theorem size_of_wN {ts : List Tx} (h : wN ts ≤ 140737488355328) : SizeOk ts := Nat.le_trans (putL_wN ts false) h
theorem sep_wN {s : Tx} {T : List (List Tx)} (hs : s.length = 1) : wN (sepT s T) ≤ wL (fun t => wN t + 2) T := by
  cases T with
  | nil => simp [sepT, wN, wL]
  | cons x r =>
    have : ∀ r : List (List Tx), wN (r.flatMap fun y => s :: y) = wL (fun t => wN t + 2) r := by
      intro r; induction r with
      | nil => simp [wN, wL]
      | cons y r ih => rw [List.flatMap_cons, wN_app, ih, wN_cons, wL, hs]; omega
    rw [sepT, wN_app, this, wL]; omega
theorem names_wN {s : Tx} {l : List Tx} (hs : s.length = 1) : wN (namesT s l) ≤ 3 * wN l := by
  refine Nat.le_trans (sep_wN hs) ?_; induction l with
  | nil => simp [wN, wL]
  | cons x r ih =>
    simp only [List.map_cons, wL, wN_cons, wN_nil] at ih ⊢; omega
theorem statics_wN (l : List Tx) : wN (staticsT l) ≤ 3 * wN l + 4 := by
  unfold staticsT; split
  · simp [wN]
  · have := names_wN (s := [44]) (l := l) rfl; rw [wN_cons, wN_app, wN_cons, wN_nil]; simp only [List.length_cons, List.length_nil]; omega
theorem kids_wN (T : List (List Tx)) : wN (kidT T 0) + wN (kidT T 1) + wN (kidT T 2) ≤ wL (fun t => wN t + 2) T + 6 := by
  match T with
  | [] => simp [kidT, wN, wL]
  | [a] => simp [kidT, wN, wL] <;> omega
  | [a, b] => simp [kidT, wN, wL] <;> omega
  | a :: b :: c :: r => simp [kidT, wL] <;> omega
theorem arms_wN : ∀ (cs : List Tx) (T : List (List Tx)), wL (fun t => wN t + 2) (armsT cs T) ≤ 6 * wN cs + wL (fun t => wN t + 2) T
  | [], T => by simp [armsT, wL]
  | c :: cs, [] => by simp [armsT, wL]
  | c :: cs, t :: T => by
    have := arms_wN cs T
    simp only [armsT, wL, wN_cons, List.length_cons, List.length_nil] at this ⊢
    omega
/- the numbers are 64-bit ones -/
mutual
def i64x : Ex → Prop
  | .mk _ _ n _ ks => i64B n ∧ i64xs ks
def i64xs : List Ex → Prop
  | [] => True
  | k :: r => i64x k ∧ i64xs r
end
theorem i64xs_all {l : List Ex} : i64xs l ↔ ∀ k ∈ l, i64x k := by
  induction l with
  | nil => simp [i64xs]
  | cons k r ih => simp [i64xs, ih]
theorem ExAt.i64 {w : Go.World} {L : List Go.Value} {x : Ex} (h : ExAt w L x) : i64x x := by
  induction h with
  | mk hop hnm hn hcs hl hc hk hx ih =>
    rw [i64x, i64xs_all]; refine ⟨hn, fun k hk' => ?_⟩; obtain ⟨i, hi, rfl⟩ := List.getElem_of_mem hk'; exact ih i _ (List.getElem?_eq_getElem hi)
theorem bnd_of_i64 : ∀ x : Ex, i64x x → bndX x := by
  intro x; induction x using Ex.ind with
  | h op nm n cs ks ih =>
    intro h; rw [i64x, i64xs_all] at h; rw [bndX, bndXs_all]; exact ⟨h.1.2, fun k hk => ih k hk (h.2 k hk)⟩
theorem toks_wN : ∀ x : Ex, i64x x → wN (toksX x) + 2 ≤ 6 * wX x := by
  intro x; induction x using Ex.ind with
  | h op nm n cs ks ih =>
    intro hb; rw [i64x, i64xs_all] at hb; obtain ⟨hn, hbk⟩ := hb; have hT : wL (fun t => wN t + 2) (ks.map toksX) ≤ 6 * wXs ks := by
      clear hn; induction ks with
      | nil => simp [wL, wXs]
      | cons k r ihr =>
        have h1 := ih k (by simp) (hbk k (by simp)); have h2 := ihr (fun y hy => ih y (by simp [hy])) (fun y hy => hbk y (by simp [hy])); simp only [List.map_cons, wL, wXs]; omega
    have hk := kids_wN (ks.map toksX); have hc := names_wN (s := [44]) (l := cs) rfl; have hs := statics_wN cs; have ha := arms_wN cs (ks.map toksX); have hsp := sep_wN (s := [44]) (T := ks.map toksX) rfl; have hsa := sep_wN (s := [124]) (T := armsT cs (ks.map toksX)) rfl; have hi := Lib.itoa_length_le n hn.1 hn.2; rw [toksX_mk, wX]; rcases op_case op with rfl | rfl | rfl | rfl | rfl | rfl | rfl | rfl | rfl | rfl | rfl | rfl | rfl | rfl | rfl | ⟨h1, h2, h3, h4, h5, h6, h7, h8, h9, h10, h11, h12, h13, h14, h15⟩
    · rw [show toksOf 1 nm n cs (ks.map toksX) = [Lib.itoa n] by simp [toksOf]]; simp only [wN_cons, wN_nil]; omega
    · rw [show toksOf 2 nm n cs (ks.map toksX) = [if n = 1 then trueT else falseT] by simp [toksOf]]; split <;> simp [wN, trueT, falseT] <;> omega
    · rw [show toksOf 3 nm n cs (ks.map toksX) = [nm] by simp [toksOf]]; simp only [wN_cons, wN_nil]; omega
    · rw [show toksOf 4 nm n cs (ks.map toksX) = [nm] by simp [toksOf]]; simp only [wN_cons, wN_nil]; omega
    · rw [show toksOf 5 nm n cs (ks.map toksX) = prefixT nm (ks.map toksX) by simp [toksOf]]; simp only [prefixT, wN_cons, wN_app, wN_nil, List.length_cons, List.length_nil]; omega
    · rw [show toksOf 6 nm n cs (ks.map toksX) = infixT nm (ks.map toksX) by simp [toksOf]]; simp only [infixT, wN_cons, wN_app, wN_nil, List.length_cons, List.length_nil]; omega
    · rw [show toksOf 7 nm n cs (ks.map toksX) = choiceT (ks.map toksX) by simp [toksOf]]; simp only [choiceT, wN_cons, wN_app, wN_nil, List.length_cons, List.length_nil]; omega
    · rw [show toksOf 8 nm n cs (ks.map toksX) = infixT fbyT (ks.map toksX) by simp [toksOf]]; simp only [infixT, fbyT, wN_cons, wN_app, wN_nil, List.length_cons, List.length_nil]; omega
    · rw [show toksOf 9 nm n cs (ks.map toksX) = prefixT preT (ks.map toksX) by simp [toksOf]]; simp only [prefixT, preT, wN_cons, wN_app, wN_nil, List.length_cons, List.length_nil]; omega
    · rw [show toksOf 10 nm n cs (ks.map toksX) = infixT arrowT (ks.map toksX) by simp [toksOf]]; simp only [infixT, arrowT, wN_cons, wN_app, wN_nil, List.length_cons, List.length_nil]; omega
    · rw [show toksOf 11 nm n cs (ks.map toksX) = whenT nm cs (ks.map toksX) by simp [toksOf]]; simp only [whenT, wN_cons, wN_app, wN_nil, List.length_cons, List.length_nil]; omega
    · rw [show toksOf 12 nm n cs (ks.map toksX) = armT mergeT nm cs (ks.map toksX) by simp [toksOf]]; simp only [armT, mergeT, wN_cons, wN_app, wN_nil, List.length_cons, List.length_nil]; omega
    · rw [show toksOf 13 nm n cs (ks.map toksX) = armT matchT nm cs (ks.map toksX) by simp [toksOf]]; simp only [armT, matchT, wN_cons, wN_app, wN_nil, List.length_cons, List.length_nil]; omega
    · rw [show toksOf 14 nm n cs (ks.map toksX) = callT nm cs (ks.map toksX) by simp [toksOf]]; simp only [callT, wN_cons, wN_app, wN_nil, List.length_cons, List.length_nil]; omega
    · rw [show toksOf 15 nm n cs (ks.map toksX) = infixT everyT (ks.map toksX) by simp [toksOf]]; simp only [infixT, everyT, wN_cons, wN_app, wN_nil, List.length_cons, List.length_nil]; omega
    · rw [show toksOf op nm n cs (ks.map toksX) = [[63]] by simp [toksOf, *]]; simp only [wN_cons, wN_nil, List.length_cons, List.length_nil]; omega
end Go.Proofs.YtlhmdjhfmhkllaaGreatDoor

namespace Go.Proofs.YtlhmdjhfmhkllaaGreatDoor
/- a node's expressions are no more than its tokens -/
theorem gflat_le {X Y : Type} {f : X → List Y} {T : X → List Tx} : ∀ {l : List X}, (∀ x ∈ l, (f x).length ≤ (T x).length) → (l.flatMap f).length ≤ (l.flatMap T).length
  | [], _ => by simp
  | x :: l, h => by
    have h1 := h x (by simp)
    have h2 := gflat_le (l := l) fun y hy => h y (by simp [hy])
    simp only [List.flatMap_cons, List.length_append]
    omega
theorem flat_mem {X : Type} {T : X → List Tx} {x : X} : ∀ {l : List X}, x ∈ l → (T x).length ≤ (l.flatMap T).length
  | y :: l, h => by
    simp only [List.flatMap_cons, List.length_append]
    rcases List.mem_cons.1 h with rfl | h
    · omega
    · have := flat_mem (T := T) h; omega
theorem state_few (s : QState) : (stateX s).length ≤ (stateT s).length := by
  have h1 := flat_len (T := eqT) eqT_ne s.eqs; have h2 := flat_len (T := wayT) (fun y => by simp [wayT]) s.ways; simp only [stateX, stateT, List.length_append, List.length_map, List.length_cons]; omega
theorem item_few (i : QItem) : (itemX i).length ≤ (itemT i).length := by
  unfold itemX itemT; by_cases h : i.states = []
  · rw [if_pos h, if_pos h, h]; have := List.length_pos_iff.2 (eqT_ne i.eq); simp; omega
  · rw [if_neg h, if_neg h]; have := gflat_le (f := stateX) (T := stateT) (l := i.states) fun s _ => state_few s; simp only [List.nil_append, List.length_cons, List.length_append]; omega
theorem gnode_few (n : QNode) : (nodeX n).length ≤ (nodeT n).length := by
  have := gflat_le (f := itemX) (T := itemT) (l := n.items) fun i _ => item_few i; simp only [nodeX, nodeT, List.length_cons, List.length_append]; omega
theorem gprog_few {p : QProg} {n : QNode} (h : n ∈ p.nodes) : (nodeX n).length ≤ (progT p).length := by
  have h1 := gnode_few n; have h2 := flat_mem (T := nodeT) h; rw [progT, List.length_append]; omega
/- depths -/
theorem depthF_dN : ∀ (ks : List Ex) (n : Int), 0 ≤ n → (∀ k ∈ ks, depthW k = (dN k : Int)) → depthF n ks = max n (dNs ks : Int)
  | [], n, h, _ => by rw [depthF, dNs]; omega
  | k :: r, n, h, hk => by
    rw [depthF, dNs, hk k (by simp), depthF_dN r _ (by omega) fun x hx => hk x (by simp [hx])]
    omega
theorem depthW_dN : ∀ x : Ex, dN x ≤ 9223372036854775807 → depthW x = (dN x : Int) := by
  intro x; induction x using Ex.ind with
  | h op nm n cs ks ih =>
    intro h; rw [dN] at h ⊢; rw [depthW, depthF_dN ks 0 (by omega) fun k hk => ih k hk (by have := dNs_le hk; omega)]; unfold Go.RowKit.wrap64; omega
/- a text's tokens -/
theorem begs_keys : ∀ {ts : List Tx} {toks : List Tok}, AllOk ts → toks.map Tok.key = ts.map keyAt ++ [endKey] → ∃ e, Begs ts toks [e] ∧ IsEnd e
  | [], toks, _, h => by
    cases toks with
    | nil => cases h
    | cons t r =>
      simp only [List.map_cons, List.map_nil, List.nil_append, List.cons.injEq, List.map_eq_nil_iff] at h
      obtain ⟨h1, rfl⟩ := h
      have := congrArg Key.sort h1
      have := congrArg Key.text h1
      exact ⟨t, rfl, by assumption, by assumption⟩
  | x :: ts, toks, ho, h => by
    cases toks with
    | nil => cases h
    | cons t r =>
      simp only [List.map_cons, List.cons_append, List.cons.injEq] at h
      obtain ⟨h1, h2⟩ := h
      obtain ⟨e, h3, h4⟩ := begs_keys (fun y hy => ho y (by simp [hy])) h2
      refine ⟨e, ⟨t, r, rfl, ⟨?_, congrArg Key.sort h1, congrArg Key.num h1⟩, h3⟩, h4⟩
      have := congrArg Key.text h1
      exact (show t.text = tokText x from this).trans (ho x (by simp)).2.2
theorem scan_lex {s : Tx} {ks : List Key} (h : Lex s ks) (hl : s.length ≤ 65536) : ∃ toks, scanL s = .inl toks ∧ toks.map Tok.key = ks := by
  obtain ⟨h1, h2⟩ := scan_of_lex h; refine ⟨(scanAll s).1, ?_, h2⟩; rw [scanL, if_neg (by omega)]; obtain ⟨q, hq⟩ : ∃ q, scanAll s = q := ⟨_, rfl⟩; obtain ⟨ts, o⟩ := q; rw [hq] at h1 ⊢; replace h1 : o = none := h1; subst h1; rfl
theorem scan_spell {ts : List Tx} (ho : AllOk ts) (hne : ts ≠ []) (hl : (spellL ts).length ≤ 65536) : ∃ toks e, scanL (spellL ts) = .inl toks ∧ Begs ts toks [e] ∧ IsEnd e := by
  obtain ⟨toks, h1, h2⟩ := scan_lex (lex_of_toks ts hne ho) hl; obtain ⟨e, h3, h4⟩ := begs_keys ho h2; exact ⟨toks, e, h1, h3, h4⟩
/-- what comes of a text -/
theorem prog_got {s : Tx} {ts : List Tok} {p : QProg} {r : List Tok} (hs : scanL s = .inl ts) (h : progO ts = .ok p r) : GProg p ∧ (progT p).length ≤ 196611 := by
  obtain ⟨he, h1, h2⟩ := ended_scan hs; obtain ⟨f, hf⟩ := progO_some he; rw [h] at hf; obtain ⟨u, e, h3, _, _, _, h4, h5, _⟩ := progF_loc (oneEnd_scan h2) (good_scan h1 h2) hf; refine ⟨h5, ?_⟩; have hl : ts.length ≤ 65537 := by
    have := scanF_len (f := s.length + 1) (l := s) (p := (1, 1)); rw [show scanF (s.length + 1) s (1, 1) = scanAll s from rfl, h2] at this; have h3 : ts.length ≤ s.length + 1 := this; omega
  rw [h3, List.length_append] at hl; omega
end Go.Proofs.YtlhmdjhfmhkllaaGreatDoor

namespace Go.Proofs.YtlhmdjhfmhkllaaGreatDoor
theorem dNs_bound {B : Nat} : ∀ {l : List Ex}, (∀ k ∈ l, dN k ≤ B) → dNs l ≤ B
  | [], _ => by rw [dNs]; omega
  | k :: r, h => by
    have h1 := h k (by simp)
    have h2 := dNs_bound (l := r) fun y hy => h y (by simp [hy])
    rw [dNs]; omega
theorem sep_mem {s : Tx} {t : List Tx} : ∀ {T : List (List Tx)}, t ∈ T → t.length ≤ (sepT s T).length
  | x :: r, h => by
    rw [sepT, List.length_append]
    rcases List.mem_cons.1 h with rfl | h
    · omega
    · have := flat_mem (T := fun y => s :: y) h
      simp only [List.length_cons] at this
      omega
theorem zip_mem {k : Ex} : ∀ {cs : List Tx} {ks : List Ex}, ks.length = cs.length → k ∈ ks → ∃ c, (c, k) ∈ cs.zip ks
  | [], [], _, h => by cases h
  | [], _ :: _, hl, _ => by simp at hl
  | _ :: _, [], _, h => by cases h
  | c :: cs, x :: ks, hl, h => by
    rw [List.zip_cons_cons]
    rcases List.mem_cons.1 h with rfl | h
    · exact ⟨c, by simp⟩
    · obtain ⟨d, hd⟩ := zip_mem (cs := cs) (ks := ks) (by simpa using hl) h
      exact ⟨d, by simp [hd]⟩
theorem arms_mem {cs : List Tx} {ks : List Ex} {k : Ex} (hl : ks.length = cs.length) (h : k ∈ ks) : (toksX k).length ≤ (sepT [124] (armsT cs (ks.map toksX))).length := by
  obtain ⟨c, hc⟩ := zip_mem hl h; rw [arms_zip]; have := sep_mem (s := [124]) (T := (cs.zip ks).map fun y => y.1 :: arrowT :: toksX y.2) (List.mem_map.2 ⟨_, hc, rfl⟩); simp only [List.length_cons] at this; omega
theorem good_deep {x : Ex} (h : Good x) : dN x ≤ (toksX x).length := by
  induction h with
  | int n h0 h1 => simp [dN, dNs, toksX, toksOf]
  | bool n h => simp [dN, dNs, toksX, toksOf]
  | con c h => simp [dN, dNs, toksX, toksOf]
  | var c h => simp [dN, dNs, toksX, toksOf]
  | un o h k hk ih => simp [dN, dNs, toksX, toksXs, toksOf, prefixT, kidT]; omega
  | bin o h a b ha hb i1 i2 => simp [dN, dNs, toksX, toksXs, toksOf, infixT, kidT]; omega
  | choice a b c ha hb hc i1 i2 i3 => simp [dN, dNs, toksX, toksXs, toksOf, choiceT, kidT]; omega
  | fby a b ha hb i1 i2 => simp [dN, dNs, toksX, toksXs, toksOf, infixT, kidT]; omega
  | pre k hk ih => simp [dN, dNs, toksX, toksXs, toksOf, prefixT, kidT]; omega
  | arrow a b ha hb i1 i2 => simp [dN, dNs, toksX, toksXs, toksOf, infixT, kidT]; omega
  | sample x c hx hc k hk ih => simp [dN, dNs, toksX, toksXs, toksOf, whenT, kidT]; omega
  | merge x cs ks hx h0 hc hl hk ih =>
    have h1 : dNs ks ≤ (sepT [124] (armsT cs (ks.map toksX))).length := dNs_bound fun k hk => Nat.le_trans (ih k hk) (arms_mem hl hk); rw [dN, toksX_mk, show toksOf 12 x 0 cs (ks.map toksX) = armT mergeT x cs (ks.map toksX) by simp [toksOf], armT]; simp only [List.length_cons, List.length_append]; omega
  | mtch x cs ks hx h0 hc hl hk ih =>
    have h1 : dNs ks ≤ (sepT [124] (armsT cs (ks.map toksX))).length := dNs_bound fun k hk => Nat.le_trans (ih k hk) (arms_mem hl hk); rw [dN, toksX_mk, show toksOf 13 x 0 cs (ks.map toksX) = armT matchT x cs (ks.map toksX) by simp [toksOf], armT]; simp only [List.length_cons, List.length_append]; omega
  | call x cs ks hx h0 hc hk ih =>
    have h1 : dNs ks ≤ (sepT [44] (ks.map toksX)).length := dNs_bound fun k hk => Nat.le_trans (ih k hk) (sep_mem (List.mem_map.2 ⟨k, hk, rfl⟩)); rw [dN, toksX_mk, show toksOf 14 x 0 cs (ks.map toksX) = callT x cs (ks.map toksX) by simp [toksOf], callT]; simp only [List.length_cons, List.length_append]; omega
  | every x cs ks b ha hb i1 i2 =>
    rw [every_len]; simp only [List.length_cons, List.length_append, dN, dNs] at i1 i2 ⊢; omega
end Go.Proofs.YtlhmdjhfmhkllaaGreatDoor

namespace Go.Proofs.YtlhmdjhfmhkllaaGreatDoor
theorem bins_lit : ∀ o ∈ binsL, litsL.contains o = true := by decide +kernel
theorem good_ok {x : Ex} (h : Good x) : AllOk (toksX x) := by
  induction h with
  | int n h0 h1 => simpa [toksX, toksOf] using AllOk.cons (ok_int h0 h1) .nil
  | bool n h =>
    rcases h with rfl | rfl
    · simpa [toksX, toksOf] using AllOk.cons (ok_lit (t := falseT) (by decide)) .nil
    · simpa [toksX, toksOf] using AllOk.cons (ok_lit (t := trueT) (by decide)) .nil
  | con c h => simpa [toksX, toksOf] using AllOk.cons (conM_false h) .nil
  | var c h => simpa [toksX, toksOf] using AllOk.cons (nameM_false h) .nil
  | un o h k hk ih =>
    have ho : tokOk o := (by rcases h with rfl | rfl <;> exact ok_lit (by decide))
    simpa [toksX, toksXs, toksOf, prefixT, kidT] using AllOk.cons (ok_lit (t := [40]) (by decide)) (.cons ho (.app ih (.cons (ok_lit (t := [41]) (by decide)) .nil)))
  | bin o h a b ha hb i1 i2 =>
    simpa [toksX, toksXs, toksOf, infixT, kidT] using AllOk.cons (ok_lit (t := [40]) (by decide)) (.app i1 (.cons (ok_lit (bins_lit o h)) (.app i2 (.cons (ok_lit (t := [41]) (by decide)) .nil))))
  | choice a b c ha hb hc i1 i2 i3 =>
    simpa [toksX, toksXs, toksOf, choiceT, kidT, ifT, thenT, elseT] using AllOk.cons (ok_lit (t := [40]) (by decide)) (.cons (ok_lit (t := ifT) (by decide)) (.app i1 (.cons (ok_lit (t := thenT) (by decide)) (.app i2 (.cons (ok_lit (t := elseT) (by decide)) (.app i3 (.cons (ok_lit (t := [41]) (by decide)) .nil)))))))
  | fby a b ha hb i1 i2 =>
    simpa [toksX, toksXs, toksOf, infixT, kidT] using AllOk.cons (ok_lit (t := [40]) (by decide)) (.app i1 (.cons (ok_lit (t := fbyT) (by decide)) (.app i2 (.cons (ok_lit (t := [41]) (by decide)) .nil))))
  | pre k hk ih =>
    simpa [toksX, toksXs, toksOf, prefixT, kidT] using AllOk.cons (ok_lit (t := [40]) (by decide)) (.cons (ok_lit (t := preT) (by decide)) (.app ih (.cons (ok_lit (t := [41]) (by decide)) .nil)))
  | arrow a b ha hb i1 i2 =>
    simpa [toksX, toksXs, toksOf, infixT, kidT] using AllOk.cons (ok_lit (t := [40]) (by decide)) (.app i1 (.cons (ok_lit (t := arrowT) (by decide)) (.app i2 (.cons (ok_lit (t := [41]) (by decide)) .nil))))
  | sample x c hx hc k hk ih =>
    rw [when_len]; exact .cons (ok_lit (by decide)) (.app ih (.cons (ok_lit (by decide)) (.cons (conM_false hc) (.cons (ok_lit (by decide)) (.cons (nameM_false hx) (.cons (ok_lit (by decide)) (.cons (ok_lit (by decide)) .nil)))))))
  | merge x cs ks hx h0 hc hl hk ih =>
    rw [toksX_mk, show toksOf 12 x 0 cs (ks.map toksX) = armT mergeT x cs (ks.map toksX) by simp [toksOf], armT]
    exact .cons (ok_lit (by decide)) (.cons (nameM_false hx) (.cons (ok_lit (by decide)) (.app (.sep (ok_lit (by decide)) (AllOk.arms (fun c h => conM_false (hc c h)) fun y hy => by
      obtain ⟨k, hk, rfl⟩ := List.mem_map.1 hy; exact ih k hk)) (.cons (ok_lit (by decide)) .nil))))
  | mtch x cs ks hx h0 hc hl hk ih =>
    rw [toksX_mk, show toksOf 13 x 0 cs (ks.map toksX) = armT matchT x cs (ks.map toksX) by simp [toksOf], armT]
    exact .cons (ok_lit (by decide)) (.cons (nameM_false hx) (.cons (ok_lit (by decide)) (.app (.sep (ok_lit (by decide)) (AllOk.arms (fun c h => conM_false (hc c h)) fun y hy => by
      obtain ⟨k, hk, rfl⟩ := List.mem_map.1 hy; exact ih k hk)) (.cons (ok_lit (by decide)) .nil))))
  | call x cs ks hx h0 hc hk ih =>
    rw [toksX_mk, show toksOf 14 x 0 cs (ks.map toksX) = callT x cs (ks.map toksX) by simp [toksOf], callT]
    exact .cons (nameM_false hx) (.app (AllOk.statics fun c h => nameM_false (hc c h)) (.cons (ok_lit (by decide)) (.app (.sep (ok_lit (by decide)) fun y hy => by
      obtain ⟨k, hk, rfl⟩ := List.mem_map.1 hy; exact ih k hk) (.cons (ok_lit (by decide)) .nil))))
  | every x cs ks b ha hb i1 i2 =>
    rw [every_len]; exact .cons (ok_lit (by decide)) (.app i1 (.cons (ok_lit (by decide)) (.app i2 (.cons (ok_lit (by decide)) .nil))))
end Go.Proofs.YtlhmdjhfmhkllaaGreatDoor

namespace Go.Proofs.YtlhmdjhfmhkllaaGreatDoor
/-- these tokens are an operand of strength s, so much fuel given: whatever stands behind that binds less -/
def Lv (s : Nat) (x : Ex) (xs : List Tx) (b : Nat) : Prop := Ev fun f => ∀ o ps t r, o + b ≤ 101 → Calm t → (∀ j, s ≤ j → j ≤ 7 → strongT t.text ≠ j) → Begs xs ps (t :: r) → opX f s ps o = some (.ok x (t :: r))
theorem lv_good {x : Ex} (h : Good x) {s : Nat} (h1 : 1 ≤ s) (h8 : s ≤ 8) : Lv s x (toksX x) (2 * dN x) := (op_ev h).mono fun _ hf o ps t r ho hc ht hb => hf s o ps t r h1 h8 ho hc ht hb
theorem lv_down {s s' b : Nat} {x : Ex} {xs : List Tx} (h : Lv s x xs b) (h8 : s ≤ 8) (hs : s' ≤ s) : Lv s' x xs b := by
  obtain ⟨F, hF⟩ := h; refine ⟨F + s + 1, fun f hf o ps t r ho hc ht hb => ?_⟩; have h1 := hF (f - (s - s')) (by omega) o ps t r ho hc (fun j h1 h2 => ht j (by omega) h2) hb; have h2 := op_down h1 h8 (by omega) (s - s') s' (by omega) ht; rwa [show f - (s - s') + (s - s') = f by omega] at h2
/-- how strong an operand behind an operator must be -/
def nextS (s : Nat) : Nat := if s = 1 ∨ s = 2 then s else s + 1
theorem lv_pair {s ba bb : Nat} {a b : Ex} {xa xb : List Tx} {w : Tx} (hs : strongT w = s) (h1 : 1 ≤ s) (h7 : s ≤ 7) (hw : CalmT w) (ha : Lv (s + 1) a xa ba) (hb : Lv (nextS s) b xb bb) : Lv s (operE w a b) (xa ++ w :: xb) (max ba bb) := by
  obtain ⟨F, hF⟩ := ha.and hb; refine ⟨F + 3, fun f hf o ps t r ho hc ht hbg => ?_⟩; obtain ⟨m, hA, hB⟩ := begs_app hbg; obtain ⟨v, m', rfl, hv, hB⟩ := hB; have hm : m' ≠ [] := begs_ne hB (by simp); obtain ⟨g, rfl⟩ : ∃ g, f = g + 3 := ⟨f - 3, by omega⟩; have hst : strongT v.text = s := (by rw [hv.1]; exact hs); rw [opX, if_neg (by omega), (hF (g + 2) (by omega)).1 o ps v m' (by omega) (calm_of hw hv.1) (fun j h2 _ => by rw [hst]; omega) hA, bindP_ok, loopX, if_pos hst, if_neg hm]; have hK := (hF (g + 1) (by omega)).2 o m' t r (by omega) hc (fun j h2 h3 => ht j (by unfold nextS at h2; split at h2 <;> omega) h3) hB
  by_cases h12 : s = 1 ∨ s = 2
  · rw [show nextS s = s by unfold nextS; rw [if_pos h12]] at hK; rw [if_pos h12, hK, bindP_ok, hv.1]
  · rw [show nextS s = s + 1 by unfold nextS; rw [if_neg h12]] at hK; rw [if_neg h12]; by_cases h5 : s = 5
    · rw [if_pos h5, hK, bindP_ok, hv.1]
    · rw [if_neg h5, hK, bindP_ok, loop_stop (ht s (Nat.le_refl _) h7), hv.1]
/-- two of a strength that goes on to the left -/
theorem lv_triple {s ba bb bc : Nat} {a b c : Ex} {xa xb xc : List Tx} {w1 w2 : Tx} (hs1 : strongT w1 = s) (hs2 : strongT w2 = s) (h1 : 1 ≤ s) (h7 : s ≤ 7) (h12 : ¬ (s = 1 ∨ s = 2)) (h5 : s ≠ 5) (hw1 : CalmT w1) (hw2 : CalmT w2) (ha : Lv (s + 1) a xa ba) (hb : Lv (s + 1) b xb bb) (hc : Lv (s + 1) c xc bc) :
    Lv s (operE w2 (operE w1 a b) c) (xa ++ w1 :: (xb ++ w2 :: xc)) (max ba (max bb bc)) := by
  obtain ⟨F, hF⟩ := (ha.and hb).and hc; refine ⟨F + 4, fun f hf o ps t r ho hcl ht hbg => ?_⟩; obtain ⟨m, hA, hB⟩ := begs_app hbg; obtain ⟨v, m', rfl, hv, hB⟩ := hB; have hm : m' ≠ [] := begs_ne hB (by simp); obtain ⟨n, hB, hC⟩ := begs_app hB; obtain ⟨u, n', rfl, hu, hC⟩ := hC; have hn : n' ≠ [] := begs_ne hC (by simp); obtain ⟨g, rfl⟩ : ∃ g, f = g + 4 := ⟨f - 4, by omega⟩; have hst : strongT v.text = s := (by rw [hv.1]; exact hs1); have hsu : strongT u.text = s := (by rw [hu.1]; exact hs2)
  rw [opX, if_neg (by omega), (hF (g + 3) (by omega)).1.1 o ps v m' (by omega) (calm_of hw1 hv.1) (fun j h2 _ => by rw [hst]; omega) hA, bindP_ok, loopX, if_pos hst, if_neg hm, if_neg h12, if_neg h5,
    (hF (g + 2) (by omega)).1.2 o m' u n' (by omega) (calm_of hw2 hu.1) (fun j h2 _ => by rw [hsu]; omega) hB, bindP_ok, loopX, if_pos hsu, if_neg hn, if_neg h12, if_neg h5,
    (hF (g + 1) (by omega)).2 o n' t r (by omega) hcl (fun j h2 h3 => ht j (by omega) h3) hC, bindP_ok, loop_stop (ht s (Nat.le_refl _) h7), hv.1, hu.1]
/-- the tree of two operators -/
def bindE (w1 w2 : Tx) (a b c : Ex) : Ex := if strongT w1 < strongT w2 ∨ (strongT w1 = strongT w2 ∧ strongT w1 ≤ 2) then operE w1 a (operE w2 b c) else operE w2 (operE w1 a b) c
theorem bind_lv {w1 w2 : Tx} {a b c : Ex} (ha : Good a) (hb : Good b) (hc : Good c) (p1 : 1 ≤ strongT w1) (q1 : strongT w1 ≤ 7) (p2 : 1 ≤ strongT w2) (q2 : strongT w2 ≤ 7) (hw1 : CalmT w1) (hw2 : CalmT w2) (h5 : ¬ (strongT w1 = 5 ∧ strongT w2 = 5)) :
    Lv 1 (bindE w1 w2 a b c) (toksX a ++ w1 :: (toksX b ++ w2 :: toksX c)) (max (2 * dN a) (max (2 * dN b) (2 * dN c))) := by
  unfold bindE; have nx : ∀ s, 1 ≤ s → s ≤ 7 → 1 ≤ nextS s ∧ nextS s ≤ 8 := fun s h1 h2 => by unfold nextS; split <;> omega
  by_cases hlt : strongT w1 < strongT w2 ∨ (strongT w1 = strongT w2 ∧ strongT w1 ≤ 2)
  · rw [if_pos hlt]; have hp := lv_pair (a := b) (b := c) rfl p2 q2 hw2 (lv_good hb (by omega) (by omega)) (lv_good hc (nx _ p2 q2).1 (nx _ p2 q2).2); have hd : Lv (nextS (strongT w1)) (operE w2 b c) (toksX b ++ w2 :: toksX c) (max (2 * dN b) (2 * dN c)) := lv_down hp (by omega) (by unfold nextS; split <;> omega)
    exact lv_down (lv_pair rfl p1 q1 hw1 (lv_good ha (by omega) (by omega)) hd) (by omega) p1
  · rw [if_neg hlt]; by_cases heq : strongT w1 = strongT w2
    · have h := lv_triple (a := a) (b := b) (c := c) heq rfl p2 q2 (by omega) (by omega) hw1 hw2 (lv_good ha (by omega) (by omega)) (lv_good hb (by omega) (by omega)) (lv_good hc (by omega) (by omega)); exact lv_down h (by omega) p2
    · have hp := lv_pair (a := a) (b := b) rfl p1 q1 hw1 (lv_good ha (by omega) (by omega)) (lv_good hb (nx _ p1 q1).1 (nx _ p1 q1).2); have hd : Lv (strongT w2 + 1) (operE w1 a b) (toksX a ++ w1 :: toksX b) (max (2 * dN a) (2 * dN b)) := lv_down hp (by omega) (by omega); have h := lv_down (lv_pair rfl p2 q2 hw2 hd (lv_good hc (nx _ p2 q2).1 (nx _ p2 q2).2)) (by omega) p2; have e1 : toksX a ++ w1 :: toksX b ++ w2 :: toksX c = toksX a ++ w1 :: (toksX b ++ w2 :: toksX c) := (by simp); rw [e1] at h; refine h.mono fun f hf o ps t r ho => hf o ps t r (by omega)
theorem op_downL {g o s : Nat} {ps : List Tok} {x : Ex} {t : Tok} {r : List Tok} (h : opX g s ps o = some (.ok x (t :: r))) (hs : s ≤ 8) (hg : 0 < g) : ∀ (d s' : Nat), s' + d = s → (∀ j, s' ≤ j → j < s → strongT t.text ≠ j) → opX (g + d) s' ps o = some (.ok x (t :: r)) := by
  intro d; induction d with
  | zero =>
    intro s' e _; obtain rfl : s' = s := by omega
    exact h
  | succ d ih =>
    intro s' e ht; rw [show g + (d + 1) = (g + d) + 1 by omega, opX, if_neg (by omega), ih (s' + 1) (by omega) fun j h1 h2 => ht j (by omega) h2, bindP_ok]; obtain ⟨k, hk⟩ : ∃ k, g + d = k + 1 := ⟨g + d - 1, by omega⟩; rw [hk, loop_stop (ht s' (Nat.le_refl _) (by omega))]
/-- two that compare: the second can't stand there -/
theorem bind_five {w1 w2 : Tx} {a b : Ex} (ha : Good a) (hb : Good b) (h1 : strongT w1 = 5) (h2 : strongT w2 = 5) (hw1 : CalmT w1) (hw2 : CalmT w2) (hda : dN a ≤ 50) (hdb : dN b ≤ 50) {xs : List Tx} {ps : List Tok} {t : Tok} {r : List Tok} (hbg : Begs (toksX a ++ w1 :: (toksX b ++ w2 :: xs)) ps (t :: r)) :
    ∃ f v q, v.text = w2 ∧ v.sort = tokSort w2 ∧ opX f 1 ps 0 = some (.ok (operE w1 a b) (v :: q)) := by
  obtain ⟨F, hF⟩ := (lv_good ha (s := 6) (by omega) (by omega)).and (lv_good hb (s := 6) (by omega) (by omega)); obtain ⟨m, hA, hB⟩ := begs_app hbg; obtain ⟨v, m', rfl, hv, hB⟩ := hB; obtain ⟨n, hB, hC⟩ := begs_app hB; obtain ⟨u, n', rfl, hu, hC⟩ := hC; have hm : m' ≠ [] := begs_ne hB (by simp); have hst : strongT v.text = 5 := (by rw [hv.1]; exact h1); have hsu : strongT u.text = 5 := (by rw [hu.1]; exact h2); have h5 : opX (F + 3) 5 ps 0 = some (.ok (operE w1 a b) (u :: n')) := by
    rw [opX, if_neg (by omega), (hF (F + 2) (by omega)).1 0 ps v m' (by omega) (calm_of hw1 hv.1) (fun j h2 _ => by rw [hst]; omega) hA, bindP_ok, loopX, if_pos hst, if_neg hm, if_neg (by omega), if_pos rfl,
      (hF (F + 1) (by omega)).2 0 m' u n' (by omega) (calm_of hw2 hu.1) (fun j h2 _ => by rw [hsu]; omega) hB, bindP_ok, hv.1]
  exact ⟨_, u, n', hu.1, hu.2.1, op_downL h5 (by omega) (by omega) 4 1 rfl fun j _ h => by rw [hsu]; omega⟩
theorem spell_join {ts rs : List Tx} (ht : ts ≠ []) (hr : rs ≠ []) : spellL (ts ++ rs) = spellL ts ++ 32 :: spellL rs := by
  induction ts with
  | nil => exact absurd rfl ht
  | cons t r ih =>
    cases r with
    | nil =>
      rw [List.singleton_append, spellL, if_neg hr]; simp [spellL]
    | cons u s =>
      rw [List.cons_append, spellL, if_neg (by simp), ih (by simp)]; rw [show spellL (t :: u :: s) = t ++ 32 :: spellL (u :: s) by rw [spellL, if_neg (by simp)]]; simp
/-- what the three expressions and two operators are spelt -/
def bindT (w1 w2 : Tx) (a b c : Ex) : List Tx := toksX a ++ w1 :: (toksX b ++ w2 :: toksX c)
theorem bindT_spell (w1 w2 : Tx) {a b c : Ex} (ha : Good a) (hb : Good b) (hc : Good c) : spellL (bindT w1 w2 a b c) = spellL (toksX a) ++ 32 :: (w1 ++ 32 :: (spellL (toksX b) ++ 32 :: (w2 ++ 32 :: spellL (toksX c)))) := by
  obtain ⟨_, _, ea, _⟩ := good_bare ha; obtain ⟨_, _, eb, _⟩ := good_bare hb; obtain ⟨_, _, ec, _⟩ := good_bare hc; have na : toksX a ≠ [] := (by rw [ea]; simp); have nb : toksX b ≠ [] := (by rw [eb]; simp); have nc : toksX c ≠ [] := (by rw [ec]; simp); have e2 : spellL (w2 :: toksX c) = w2 ++ 32 :: spellL (toksX c) := (by rw [spellL, if_neg nc]); have e1 : spellL (w1 :: (toksX b ++ w2 :: toksX c)) = w1 ++ 32 :: spellL (toksX b ++ w2 :: toksX c) := (by rw [spellL, if_neg (by simp)]); rw [bindT, spell_join na (by simp), e1, spell_join nb (by simp), e2]
def bindsL : List Tx := [arrowT, fbyT, orT, andT, [60], [43], [42]]
theorem binds_fit : ∀ w ∈ bindsL, 1 ≤ strongT w ∧ strongT w ≤ 7 ∧ CalmT w ∧ tokSort w ≠ 6 := by decide +kernel
theorem binds_lit : ∀ w ∈ bindsL, litsL.contains w = true := by decide +kernel
theorem bindT_ok {w1 w2 : Tx} (h1 : w1 ∈ bindsL) (h2 : w2 ∈ bindsL) {a b c : Ex} (ha : Good a) (hb : Good b) (hc : Good c) : AllOk (bindT w1 w2 a b c) ∧ bindT w1 w2 a b c ≠ [] := by
  refine ⟨.app (good_ok ha) (.cons (ok_lit (binds_lit w1 h1)) (.app (good_ok hb) (.cons (ok_lit (binds_lit w2 h2)) (good_ok hc)))), ?_⟩; obtain ⟨_, _, ea, _⟩ := good_bare ha; rw [bindT, ea]; simp
/-- what the text is read as -/
theorem bind_back {w1 w2 : Tx} (h1 : w1 ∈ bindsL) (h2 : w2 ∈ bindsL) {a b c : Ex} (ha : Good a) (hb : Good b) (hc : Good c) (hda : dN a ≤ 50) (hdb : dN b ≤ 50) (hdc : dN c ≤ 50) (hl : (spellL (bindT w1 w2 a b c)).length ≤ 65536) :
    ∃ toks, scanL (spellL (bindT w1 w2 a b c)) = .inl toks ∧ ((¬ (strongT w1 = 5 ∧ strongT w2 = 5) ∧ ∃ e, exprO toks = .ok (bindE w1 w2 a b c) [e]) ∨ ((strongT w1 = 5 ∧ strongT w2 = 5) ∧ ∃ l k, exprO toks = .bad (3, l, k))) := by
  obtain ⟨ho, hne⟩ := bindT_ok h1 h2 ha hb hc; obtain ⟨toks, e, hs, hbg, he⟩ := scan_spell ho hne hl; obtain ⟨p1, q1, c1, _⟩ := binds_fit w1 h1; obtain ⟨p2, q2, c2, s2⟩ := binds_fit w2 h2; refine ⟨toks, hs, ?_⟩; by_cases h5 : strongT w1 = 5 ∧ strongT w2 = 5
  · obtain ⟨f, v, q, hv, hvs, hf⟩ := bind_five ha hb h5.1 h5.2 c1 c2 hda hdb hbg; refine .inr ⟨h5, v.line, v.col, exprO_eq (f := f) ?_⟩; rw [exprF, wholeP, hf, bindP_ok]; simp only [hvs, if_neg s2]; rfl
  · obtain ⟨F, hF⟩ := bind_lv ha hb hc p1 q1 p2 q2 c1 c2 h5; refine .inl ⟨h5, e, exprO_eq (f := F) ?_⟩; have hst := stop_of (s := []) (by decide) he.1; rw [exprF, wholeP, hF F (Nat.le_refl _) 0 toks e [] (by omega) hst.calm (hst.weak (Nat.le_refl _)) hbg, bindP_ok]; simp only [he.2, if_true]
end Go.Proofs.YtlhmdjhfmhkllaaGreatDoor
