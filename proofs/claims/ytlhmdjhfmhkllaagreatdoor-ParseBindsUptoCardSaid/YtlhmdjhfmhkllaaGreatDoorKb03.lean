/-
  Texts joined.
-/
import Derived.Test.YtlhmdjhfmhkllaaGreatDoorKb01
import Derived.Test.YtlhmdjhfmhkllaaGreatDoorKb02
namespace Go.Proofs.YtlhmdjhfmhkllaaGreatDoor
def eqSign : Tx := [61]
def semiT : Tx := [59]
def colonT : Tx := [58]
def untilT : Tx := [117, 110, 116, 105, 108]
def stateW : Tx := [115, 116, 97, 116, 101]
def autoT : Tx := [97, 117, 116, 111, 109, 97, 116, 111, 110]
def endW : Tx := [101, 110, 100]
def typeW : Tx := [116, 121, 112, 101]
def nodeW : Tx := [110, 111, 100, 101]
def whereT : Tx := [119, 104, 101, 114, 101]
def atEqP : List Tok → Bool
  | [] => false
  | t :: _ => decide (t.sort = 1) || decide (t.text = openT)
def definedP (ts : List Tok) : Pr (List Tx) := if atP openT ts = true then enclosedP openT namesP shutT ts else bindP (nameP ts) fun n ts => some (.ok [n] ts)
section
variable (E : List Tok → Pr Ex)
def equationP (ts : List Tok) : Pr QEq :=
  bindP (definedP ts) fun l ts => bindP (wantP eqSign ts) fun _ ts => bindP (E ts) fun e ts => bindP (wantP semiT ts) fun _ ts => some (.ok ⟨l, e⟩ ts)
def wayP (ts : List Tok) : Pr QWay :=
  bindP (wantP untilT ts) fun _ ts => bindP (E ts) fun e ts => bindP (wantP thenT ts) fun _ ts => bindP (conP ts) fun c ts => bindP (wantP semiT ts) fun _ ts => some (.ok ⟨e, c⟩ ts)
def stateP (ts : List Tok) : Pr QState :=
  bindP (wantP stateW ts) fun _ ts => bindP (conP ts) fun c ts => bindP (wantP colonT ts) fun _ ts =>
    bindP (repeatedP atEqP (equationP E) ts) fun l ts => bindP (repeatedP (atP untilT) (wayP E) ts) fun y ts => some (.ok ⟨c, l, y⟩ ts)
def automatonP (ts : List Tok) : Pr (List QState) :=
  bindP (wantP autoT ts) fun _ ts => bindP (stateP E ts) fun s ts => bindP (repeatedP (atP stateW) (stateP E) ts) fun l ts =>
    bindP (wantP endW ts) fun _ ts => bindP (wantP semiT ts) fun _ ts => some (.ok (s :: l) ts)
def itemP (ts : List Tok) : Pr QItem :=
  if atP autoT ts = true then bindP (automatonP E ts) fun l ts => some (.ok ⟨⟨[], .mk 0 [] 0 [] []⟩, l⟩ ts)
  else bindP (equationP E ts) fun q ts => some (.ok ⟨q, []⟩ ts)
def atItemP (ts : List Tok) : Bool := atP autoT ts || atEqP ts
def nodeP (ts : List Tok) : Pr QNode :=
  bindP (wantP nodeW ts) fun _ ts => bindP (nameP ts) fun n ts => bindP (staticsP ts) fun fs ts => bindP (enclosedP openT namesP shutT ts) fun is ts =>
    bindP (wantP eqSign ts) fun _ ts => bindP (enclosedP openT namesP shutT ts) fun os ts => bindP (wantP whereT ts) fun _ ts =>
      bindP (repeatedP atItemP (itemP E) ts) fun l ts => bindP (wantP endW ts) fun _ ts => some (.ok ⟨n, fs, is, os, l⟩ ts)
def enumP (ts : List Tok) : Pr QEnum :=
  bindP (wantP typeW ts) fun _ ts => bindP (nameP ts) fun n ts => bindP (wantP eqSign ts) fun _ ts => bindP (separatedP barT conP ts) fun l ts =>
    bindP (wantP semiT ts) fun _ ts => some (.ok ⟨n, l⟩ ts)
def programF : Nat → List QEnum → List QNode → List Tok → Pr QProg
  | 0, _, _, _ => none
  | g + 1, es, ns, ts =>
    if ts = [] then none else if atP typeW ts = true then bindP (enumP ts) fun e ts => programF g (es ++ [e]) ns ts
    else if atP nodeW ts = true then bindP (nodeP E ts) fun n ts => programF g es (ns ++ [n]) ts
    else some (.ok ⟨es, ns⟩ ts)
def programP (ts : List Tok) : Pr QProg := programF E (ts.length + 1) [] [] ts
end
/-- all tokens of a text -/
def wholeP {X : Type} (E : List Tok → Pr X) (ts : List Tok) : Pr X :=
  bindP (E ts) fun x ts => match ts with | [] => none | t :: r => if t.sort = 6 then some (.ok x (t :: r)) else some (.bad (faultT 3 t))
theorem repeat_fine {X : Type} {B : List Tok → Bool} {E : List Tok → Pr X} {n : Nat} (hE : TotE n E) : ∀ g acc ts, ts.length < g → ts.length ≤ n → Ended ts → Fine ts.length (repeatP B E g acc ts) := by
  intro g; induction g with
  | zero => intro acc ts h; omega
  | succ g ih =>
    intro acc ts hg hn he; rw [repeatP, if_neg he.pos]; split
    · have := List.length_pos_iff.2 he.pos; refine (hE.le hn he).bind fun x ts' h3 h4 => ?_; exact (ih _ ts' (by omega) (by omega) h3).mono (by omega)
    · exact Fine.ok he (Nat.le_refl _)
theorem repeated_fine {X : Type} {B : List Tok → Bool} {E : List Tok → Pr X} {n : Nat} (hE : TotE n E) {ts : List Tok} (hn : ts.length ≤ n) (he : Ended ts) : Fine ts.length (repeatedP B E ts) := repeat_fine hE _ _ ts (by omega) hn he
theorem names_tot (n : Nat) : TotE n namesP := separated_tot (by decide) (name_tot n)
theorem defined_tot (n : Nat) : TotE n definedP := by
  intro ts m h hm he; unfold definedP; split
  · exact enclosed_tot' (by decide) (by decide) (names_tot n) ts m h hm he
  · exact (name_tot n ts m h hm he).bind fun x ts1 h1 h2 => Fine.ok h1 h2
section
variable {E : List Tok → Pr Ex} {n : Nat} (hE : TotE n E)
include hE
theorem equation_tot : TotE n (equationP E) := by
  intro ts m h hm he; refine (defined_tot n ts m h hm he).bind fun l ts1 h1 h2 => ?_; refine (want_fine (by decide) h1 (n := m) (by omega)).bind fun _ ts2 h3 h4 => ?_; refine (hE.le (by omega) h3).bind fun e ts3 h5 h6 => ?_; exact (want_fine (by decide) h5 (n := m) (by omega)).bind fun _ ts4 h7 h8 => Fine.ok h7 h8
theorem way_tot : TotE n (wayP E) := by
  intro ts m h hm he; refine (want_fine (by decide) he (n := m) (by omega)).bind fun _ ts1 h1 h2 => ?_; refine (hE.le (by omega) h1).bind fun e ts2 h3 h4 => ?_; refine (want_fine (by decide) h3 (n := m) (by omega)).bind fun _ ts3 h5 h6 => ?_; refine ((con_tot n).le (by omega) h5).bind fun c ts4 h7 h8 => ?_; exact (want_fine (by decide) h7 (n := m) (by omega)).bind fun _ ts5 h9 h10 => Fine.ok h9 h10
theorem state_tot : TotE n (stateP E) := by
  intro ts m h hm he; refine (want_fine (by decide) he (n := m) (by omega)).bind fun _ ts1 h1 h2 => ?_; refine ((con_tot n).le (by omega) h1).bind fun c ts2 h3 h4 => ?_; refine (want_fine (by decide) h3 (n := m) (by omega)).bind fun _ ts3 h5 h6 => ?_; refine (repeated_fine (equation_tot hE) (by omega) h5).bind fun l ts4 h7 h8 => ?_; refine (repeated_fine (way_tot hE) (by omega) h7).bind fun y ts5 h9 h10 => ?_; exact Fine.ok h9 (by omega)
theorem automaton_tot : TotE n (automatonP E) := by
  intro ts m h hm he; refine (want_fine (by decide) he (n := m) (by omega)).bind fun _ ts1 h1 h2 => ?_; refine ((state_tot hE).le (by omega) h1).bind fun s ts2 h3 h4 => ?_; refine (repeated_fine (state_tot hE) (by omega) h3).bind fun l ts3 h5 h6 => ?_; refine (want_fine (by decide) h5 (n := m) (by omega)).bind fun _ ts4 h7 h8 => ?_; exact (want_fine (by decide) h7 (n := m) (by omega)).bind fun _ ts5 h9 h10 => Fine.ok h9 h10
theorem item_tot : TotE n (itemP E) := by
  intro ts m h hm he; unfold itemP; split
  · exact (automaton_tot hE ts m h hm he).bind fun l ts1 h1 h2 => Fine.ok h1 h2
  · exact (equation_tot hE ts m h hm he).bind fun l ts1 h1 h2 => Fine.ok h1 h2
theorem node_tot : TotE n (nodeP E) := by
  intro ts m h hm he; refine (want_fine (by decide) he (n := m) (by omega)).bind fun _ ts1 h1 h2 => ?_; refine ((name_tot n).le (by omega) h1).bind fun c ts2 h3 h4 => ?_; refine (statics_fine h3).bind fun fs ts3 h5 h6 => ?_; refine ((enclosed_tot' (by decide) (by decide) (names_tot n)).le (by omega) h5).bind fun is ts4 h7 h8 => ?_; refine (want_fine (by decide) h7 (n := m) (by omega)).bind fun _ ts5 h9 h10 => ?_; refine ((enclosed_tot' (by decide) (by decide) (names_tot n)).le (by omega) h9).bind fun os ts6 h11 h12 => ?_; refine (want_fine (by decide) h11 (n := m) (by omega)).bind fun _ ts7 h13 h14 => ?_; refine (repeated_fine (item_tot hE) (by omega) h13).bind fun l ts8 h15 h16 => ?_; exact (want_fine (by decide) h15 (n := m) (by omega)).bind fun _ ts9 h17 h18 => Fine.ok h17 h18
omit hE in
theorem enum_tot : TotE n enumP := by
  intro ts m h hm he; refine (want_fine (by decide) he (n := m) (by omega)).bind fun _ ts1 h1 h2 => ?_; refine ((name_tot n).le (by omega) h1).bind fun c ts2 h3 h4 => ?_; refine (want_fine (by decide) h3 (n := m) (by omega)).bind fun _ ts3 h5 h6 => ?_; refine ((separated_tot (by decide) (con_tot n)).le (by omega) h5).bind fun l ts4 h7 h8 => ?_; exact (want_fine (by decide) h7 (n := m) (by omega)).bind fun _ ts5 h9 h10 => Fine.ok h9 h10
theorem program_fine : ∀ g es ns ts, ts.length < g → ts.length ≤ n → Ended ts → Fine ts.length (programF E g es ns ts) := by
  intro g; induction g with
  | zero => intro es ns ts h; omega
  | succ g ih =>
    intro es ns ts hg hn he; have := List.length_pos_iff.2 he.pos; rw [programF, if_neg he.pos]; split
    · refine ((enum_tot (n := n)).le hn he).bind fun x ts' h3 h4 => ?_; exact (ih _ _ ts' (by omega) (by omega) h3).mono (by omega)
    · split
      · refine ((node_tot hE).le hn he).bind fun x ts' h3 h4 => ?_; exact (ih _ _ ts' (by omega) (by omega) h3).mono (by omega)
      · exact Fine.ok he (Nat.le_refl _)
end
theorem whole_some {X : Type} {E : List Tok → Pr X} {ts : List Tok} {n : Nat} (h : Fine n (E ts)) : ∃ o, wholeP E ts = some o := by
  obtain ⟨o, h1, h2⟩ := h; unfold wholeP; rw [h1]; cases o with
  | bad f => exact ⟨_, rfl⟩
  | ok x r =>
    obtain ⟨h3, _⟩ := h2 x r rfl; cases r with
    | nil => exact absurd h3 id
    | cons t r => by_cases h : t.sort = 6 <;> simp [bindP, h]
/-- each text's tokens have an answer: as an expression, as a program -/
theorem all_total {ts : List Tok} (he : Ended ts) : ∃ f, (∃ o, wholeP (fun ts => opX f 1 ts 0) ts = some o) ∧ ∃ o, wholeP (programP fun ts => opX f 1 ts 0) ts = some o := by
  obtain ⟨F, hF⟩ := all_tot ts.length; have hE : TotE ts.length fun ts => opX F 1 ts 0 := (hF F (Nat.le_refl _)).2 1 (by omega) (by omega) 0; exact ⟨F, whole_some (hE.le (Nat.le_refl _) he), whole_some (program_fine hE _ _ _ ts (by omega) (Nat.le_refl _) he)⟩
end Go.Proofs.YtlhmdjhfmhkllaaGreatDoor

namespace Go.Proofs.YtlhmdjhfmhkllaaGreatDoor
/-- a text that is just one token -/
def tokOk (t : Tx) : Prop := t ≠ [] ∧ tokSort t ≠ 0 ∧ tokText t = t
theorem gap_self {t : Tx} (h : tokOk t) : gapL t = 0 := by
  obtain ⟨h6, h0, ht⟩ := h; by_cases hr : runL t = 0
  · have ht' : signL t = t := by have := ht; rw [tokText, if_pos hr] at this; exact this
    have hne : signL t ≠ [] := (by rw [ht']; exact h6); obtain ⟨_, _, _, s4, s5⟩ := signs_self _ (signL_mem hne); rw [ht'] at s4 s5; cases t with
    | nil => exact absurd rfl h6
    | cons x p => exact gapL_none s4 s5
  · have ht' : t.take (runL t) = t := by have := ht; rw [tokText, if_neg hr] at this; exact this
    have hall := run_take t; rw [ht'] at hall; cases t with
    | nil => exact absurd rfl h6
    | cons x p =>
      obtain ⟨g1, g2⟩ := more_space (hall x (by simp)); refine gapL_none g1 ?_; have : (45 == x) = false := by simp; rintro rfl; exact g2 rfl
      simp [List.isPrefixOf, this]
theorem lex_of_toks : ∀ (ts : List Tx), ts ≠ [] → (∀ t ∈ ts, tokOk t) → Lex (spellL ts) (ts.map keyAt ++ [endKey])
  | [], h, _ => absurd rfl h
  | [t], _, h => by
    have ht := h t (by simp)
    have hg := gap_self ht
    obtain ⟨h6, h0, hx⟩ := ht
    have := Lex.tok (l := t) (m := t) (ks := [endKey]) (by rw [hg]; rfl) h6 h0 (by rw [hx, List.drop_length]; exact .fin rfl)
    simpa [spellL] using this
  | t :: u :: r, _, h => by
    have ht := h t (by simp)
    have ih := lex_of_toks (u :: r) (by simp) (fun x hx => h x (by simp at hx ⊢; exact .inr hx))
    obtain ⟨h6, h0, hx⟩ := ht
    obtain ⟨_, h2⟩ := key_self h6 h0
    rw [hx] at h2
    have hk' := key_sep (.inr rfl) h6 (spellL (u :: r)) (c := 32)
    have hso : tokSort (t ++ 32 :: spellL (u :: r)) = tokSort t := congrArg Key.sort hk'
    have htx : tokText (t ++ 32 :: spellL (u :: r)) = t := (congrArg Key.text hk').trans hx
    have e : spellL (t :: u :: r) = t ++ 32 :: spellL (u :: r) := (by rw [spellL, if_neg (by simp)])
    rw [e]
    have := Lex.tok (l := t ++ 32 :: spellL (u :: r)) (m := t ++ 32 :: spellL (u :: r)) (by rw [h2]; rfl) (by simp) (by rw [hso]; exact h0) (ks := (u :: r).map keyAt ++ [endKey]) (by rw [htx, List.drop_left]; exact lex_skip rfl ih)
    rw [hk'] at this
    simpa using this
/- names, constructors, digits, signs, words -/
theorem fit_parts {l : Tx} (h : fitB l = true) : l ≠ [] ∧ runL l = l.length := by
  simp [fitB] at h; exact ⟨by intro e; simp [e] at h, h.2⟩
theorem ok_of_sort {l : Tx} (h : l ≠ []) (hr : runL l = l.length) (hs : sortL l ≠ 0) : tokOk l := by
  have h0 : runL l ≠ 0 := (by rw [hr]; simpa using h); refine ⟨h, ?_, ?_⟩
  · rw [tokSort, if_neg h, if_neg h0, hr, List.take_length]; exact hs
  · rw [tokText, if_neg h0, hr, List.take_length]
theorem ok_name {l : Tx} (h : nameB l = true) : tokOk l := by
  have hf : fitB l = true := (by simp [nameB] at h; exact h.1.1); obtain ⟨h1, h2⟩ := fit_parts hf; refine ok_of_sort h1 h2 ?_; unfold sortL; rw [if_pos h]; split <;> simp
theorem ok_con {l : Tx} (h : conB l = true) : tokOk l := by
  have hf : fitB l = true := (by simp [conB] at h; exact h.1); obtain ⟨h1, h2⟩ := fit_parts hf; refine ok_of_sort h1 h2 ?_; unfold sortL; rw [if_pos h]; split
  · simp
  · split <;> simp
theorem dec_dig : ∀ n : Nat, AllDig (Lib.decDigits n) ∧ Lib.decDigits n ≠ [] ∧ digV 0 (Lib.decDigits n) = n ∧ (1 < (Lib.decDigits n).length → ((Lib.decDigits n).head?.getD 0).toNat ≠ 48) := by
  intro n; induction n using Nat.strongRecOn with
  | _ n ih =>
    rw [Lib.decDigits]; by_cases h : n < 10
    · rw [dif_pos h]; have hm : (48 + n) % 256 = 48 + n := Nat.mod_eq_of_lt (by omega); refine ⟨fun c hc => ?_, by simp, ?_, by simp⟩
      · obtain rfl := List.mem_singleton.1 hc; rw [UInt8.toNat_ofNat', hm]; omega
      · rw [digV_cons, digV_nil, UInt8.toNat_ofNat', hm]; omega
    · rw [dif_neg h]; obtain ⟨i1, i2, i3, i4⟩ := ih (n / 10) (by omega); have hm : (48 + n % 10) % 256 = 48 + n % 10 := Nat.mod_eq_of_lt (by omega); refine ⟨fun c hc => ?_, by simp, ?_, fun _ => ?_⟩
      · rcases List.mem_append.1 hc with hc | hc
        · exact i1 c hc
        · obtain rfl := List.mem_singleton.1 hc; rw [UInt8.toNat_ofNat', hm]; omega
      · rw [digV_snoc, i3, UInt8.toNat_ofNat', hm]; omega
      · obtain ⟨x, r, e⟩ := List.exists_cons_of_ne_nil i2; rw [e] at i3 i4 i1 ⊢; simp only [List.cons_append, List.head?_cons, Option.getD_some] at i4 ⊢; cases r with
        | nil =>
          rw [digV_cons, digV_nil] at i3; have := i1 x (by simp); omega
        | cons y r => exact i4 (by simp)
theorem dig_more {c : UInt8} (h : 48 ≤ c.toNat ∧ c.toNat ≤ 57) : moreB c = true := by simp [moreB, digitB]; omega
theorem run_all : ∀ {l : Tx}, (∀ c ∈ l, moreB c = true) → runL l = l.length
  | [], _ => rfl
  | c :: r, h => by rw [runL_cons_yes (h c (by simp)), run_all (fun x hx => h x (by simp [hx])), List.length_cons]
theorem ok_dig {n : Nat} (h : n < 9223372036854775808) : tokOk (Lib.decDigits n) := by
  obtain ⟨h1, h2, h3, h4⟩ := dec_dig n; refine ok_of_sort h2 (run_all fun c hc => dig_more (h1 c hc)) ?_; have hl : litB (Lib.decDigits n) = true := by
    unfold litB; rw [litL_dig h2 h1, if_neg (fun e => h4 e.1 e.2), if_pos (by rw [h3]; exact h)]; rfl
  unfold sortL; rw [if_pos hl]; split
  · simp
  · split
    · simp
    · split <;> simp
theorem ok_int {n : Int} (h0 : 0 ≤ n) (h1 : n ≤ 9223372036854775807) : tokOk (Lib.itoa n) := by
  rw [Lib.itoa, if_neg (by omega)]; exact ok_dig (by omega)
/- the numbers fit -/
mutual
def bndX : Ex → Prop
  | .mk _ _ n _ ks => n ≤ 9223372036854775807 ∧ bndXs ks
def bndXs : List Ex → Prop
  | [] => True
  | k :: r => bndX k ∧ bndXs r
end
theorem bndXs_all {l : List Ex} : bndXs l ↔ ∀ k ∈ l, bndX k := by
  induction l with
  | nil => simp [bndXs]
  | cons k r ih => simp [bndXs, ih]
instance : DecidablePred tokOk := fun t => inferInstanceAs (Decidable (t ≠ [] ∧ tokSort t ≠ 0 ∧ tokText t = t))
def litsL : List Tx := [[40], [41], [91], [93], [44], [59], [58], [124], [61], [45, 62], trueT, falseT, fbyT, preT, mergeT, matchT, everyT, [105, 102], [116, 104, 101, 110], [101, 108, 115, 101], [119, 104, 101, 110], [117, 110, 116, 105, 108], [115, 116, 97, 116, 101],
  [97, 117, 116, 111, 109, 97, 116, 111, 110], [101, 110, 100], [116, 121, 112, 101], [110, 111, 100, 101], [119, 104, 101, 114, 101], [110, 111, 116], [45]] ++ binsL
theorem ok_lits : ∀ t ∈ litsL, tokOk t := by decide +kernel
theorem ok_lit {t : Tx} (h : litsL.contains t = true) : tokOk t := ok_lits t (by simpa using h)
theorem nameM_false {l : Tx} (h : nameM false l = true) : tokOk l := ok_name (by simpa [nameM, ungenL] using h)
theorem conM_false {l : Tx} (h : conM false l = true) : tokOk l := ok_con (by simpa [conM, ungenL] using h)
def AllOk (ts : List Tx) : Prop := ∀ t ∈ ts, tokOk t
theorem AllOk.nil : AllOk [] := fun _ h => by cases h
theorem AllOk.cons {t : Tx} {r : List Tx} (h : tokOk t) (hr : AllOk r) : AllOk (t :: r) := fun x hx => by
  rcases List.mem_cons.1 hx with rfl | hx
  · exact h
  · exact hr x hx
theorem AllOk.app {a b : List Tx} (ha : AllOk a) (hb : AllOk b) : AllOk (a ++ b) := fun x hx => (List.mem_append.1 hx).elim (ha x) (hb x)
theorem AllOk.flat {X : Type} {f : X → List Tx} {l : List X} (h : ∀ x ∈ l, AllOk (f x)) : AllOk (l.flatMap f) := fun t ht => by
  obtain ⟨x, hx, ht⟩ := List.mem_flatMap.1 ht
  exact h x hx t ht
theorem AllOk.sep {s : Tx} (hs : tokOk s) {l : List (List Tx)} (h : ∀ x ∈ l, AllOk x) : AllOk (sepT s l) := by
  cases l with
  | nil => exact .nil
  | cons x r => exact .app (h x (by simp)) (.flat fun y hy => .cons hs (h y (by simp [hy])))
theorem AllOk.names {s : Tx} (hs : tokOk s) {l : List Tx} (h : ∀ x ∈ l, tokOk x) : AllOk (namesT s l) :=
  .sep hs fun x hx => by
    obtain ⟨y, hy, rfl⟩ := List.mem_map.1 hx
    exact .cons (h y hy) .nil
theorem AllOk.statics {l : List Tx} (h : ∀ x ∈ l, tokOk x) : AllOk (staticsT l) := by
  unfold staticsT; split
  · exact .nil
  · exact .cons (ok_lit rfl) (.app (.names (ok_lit rfl) h) (.cons (ok_lit rfl) .nil))
theorem AllOk.arms : ∀ {cs : List Tx} {T : List (List Tx)}, (∀ x ∈ cs, tokOk x) → (∀ x ∈ T, AllOk x) → ∀ x ∈ armsT cs T, AllOk x
  | [], _, _, _ => fun x hx => by simp [armsT] at hx
  | c :: cs, [], _, _ => fun x hx => by simp [armsT] at hx
  | c :: cs, t :: T, hc, hT => fun x hx => by
    rw [armsT] at hx
    rcases List.mem_cons.1 hx with rfl | hx
    · exact .cons (hc c (by simp)) (.cons (ok_lit rfl) (hT t (by simp)))
    · exact AllOk.arms (fun y hy => hc y (by simp [hy])) (fun y hy => hT y (by simp [hy])) x hx
theorem allM_mem {X : Type} {l : List X} {a b : Nat} {f : X → Bool} (h : allM l a b f = true) : ∀ x ∈ l, f x = true := by
  simp [allM] at h; exact h.2
theorem op_case (op : Int) : op = 1 ∨ op = 2 ∨ op = 3 ∨ op = 4 ∨ op = 5 ∨ op = 6 ∨ op = 7 ∨ op = 8 ∨ op = 9 ∨ op = 10 ∨ op = 11 ∨ op = 12 ∨ op = 13 ∨ op = 14 ∨ op = 15 ∨ (op ≠ 1 ∧ op ≠ 2 ∧ op ≠ 3 ∧ op ≠ 4 ∧ op ≠ 5 ∧ op ≠ 6 ∧ op ≠ 7 ∧ op ≠ 8 ∧ op ≠ 9 ∧ op ≠ 10 ∧ op ≠ 11 ∧ op ≠ 12 ∧ op ≠ 13 ∧ op ≠ 14 ∧ op ≠ 15) := by omega
end Go.Proofs.YtlhmdjhfmhkllaaGreatDoor

namespace Go.Proofs.YtlhmdjhfmhkllaaGreatDoor
/-- from some fuel on -/
def Ev (p : Nat → Prop) : Prop := ∃ F, ∀ f, F ≤ f → p f
theorem Ev.of {p : Nat → Prop} (h : ∀ f, p f) : Ev p := ⟨0, fun f _ => h f⟩
theorem Ev.mono {p q : Nat → Prop} (h : Ev p) (g : ∀ f, p f → q f) : Ev q := by
  obtain ⟨F, h⟩ := h; exact ⟨F, fun f hf => g f (h f hf)⟩
theorem Ev.and {p q : Nat → Prop} (h : Ev p) (g : Ev q) : Ev fun f => p f ∧ q f := by
  obtain ⟨F, h⟩ := h; obtain ⟨G, g⟩ := g; exact ⟨F + G, fun f hf => ⟨h f (by omega), g f (by omega)⟩⟩
theorem Ev.all {X : Type} {p : X → Nat → Prop} {l : List X} (h : ∀ x ∈ l, Ev (p x)) : Ev fun f => ∀ x ∈ l, p x f := by
  induction l with
  | nil => exact .of fun _ _ hx => by cases hx
  | cons x r ih =>
    refine ((h x (by simp)).and (ih fun y hy => h y (by simp [hy]))).mono fun f hf y hy => ?_; rcases List.mem_cons.1 hy with rfl | hy
    · exact hf.1
    · exact hf.2 y hy
/- Tokens and the texts that they bear. -/
def IsT (x : Tx) (t : Tok) : Prop := t.text = x ∧ t.sort = tokSort x ∧ t.num = tokNum x
/-- these tokens begin with these texts, behind which is r -/
def Begs : List Tx → List Tok → List Tok → Prop
  | [], ps, r => ps = r
  | x :: xs, ps, r => ∃ t q, ps = t :: q ∧ IsT x t ∧ Begs xs q r
theorem begs_app {a b : List Tx} : ∀ {ps r : List Tok}, Begs (a ++ b) ps r → ∃ q, Begs a ps q ∧ Begs b q r := by
  induction a with
  | nil => exact fun h => ⟨_, rfl, h⟩
  | cons x xs ih =>
    rintro ps r ⟨t, q, rfl, ht, h⟩; obtain ⟨m, h1, h2⟩ := ih h; exact ⟨m, ⟨t, q, rfl, ht, h1⟩, h2⟩
theorem begs_ne {a : List Tx} : ∀ {ps r : List Tok}, Begs a ps r → r ≠ [] → ps ≠ [] := by
  intro ps r h hr; cases a with
  | nil => rw [Begs] at h; rw [h]; exact hr
  | cons x xs => obtain ⟨t, q, rfl, _⟩ := h; simp
theorem begs_one {x : Tx} {ps r : List Tok} (h : Begs [x] ps r) : ∃ t, ps = t :: r ∧ IsT x t := by
  obtain ⟨t, q, rfl, ht, h⟩ := h; rw [Begs] at h; exact ⟨t, by rw [h], ht⟩
/- Sorts. -/
theorem sort_whole {x : Tx} (h : fitB x = true) : tokSort x = sortL x ∧ tokNum x = numL x := by
  obtain ⟨h1, h2⟩ := fit_parts h; have h0 : runL x ≠ 0 := (by rw [h2]; simpa using h1); constructor
  · rw [tokSort, if_neg h1, if_neg h0, h2, List.take_length]
  · rw [tokNum, if_neg h0, h2, List.take_length]
theorem name_parts {x : Tx} (h : nameM false x = true) : nameB x = true := by simpa [nameM, ungenL] using h
theorem con_parts {x : Tx} (h : conM false x = true) : conB x = true := by simpa [conM, ungenL] using h
theorem psort_name {x : Tx} (h : nameM false x = true) : tokSort x = 1 := by
  have h := name_parts h; have hf : fitB x = true := (by simp [nameB] at h; exact h.1.1); have hw : wordB x = false := (by simp [nameB] at h; exact h.2); rw [(sort_whole hf).1, sortL, hw, h]; rfl
theorem words_con : ∀ u ∈ wordsL, conB u = false := by decide +kernel
theorem con_small {x : Tx} (h : conB x = true) : nameB x = false ∧ wordB x = false := by
  have hg : greatB (x.headD 0) = true := (by unfold conB at h; rw [Bool.and_eq_true] at h; exact h.2); constructor
  · cases hn : nameB x
    · rfl
    · exfalso; have hs : smallB (x.headD 0) = true := (by unfold nameB at hn; rw [Bool.and_eq_true, Bool.and_eq_true] at hn; exact hn.1.2); simp only [smallB, greatB, Bool.and_eq_true, decide_eq_true_eq] at hs hg; omega
  · cases hw : wordB x
    · rfl
    · exfalso; simp only [wordB, List.any_eq_true, beq_iff_eq] at hw; obtain ⟨u, hu, rfl⟩ := hw; rw [words_con _ hu] at h; cases h
theorem psort_con {x : Tx} (h : conM false x = true) : tokSort x = 2 := by
  have h := con_parts h; have hf : fitB x = true := (by simp [conB] at h; exact h.1); obtain ⟨h1, h2⟩ := con_small h; rw [(sort_whole hf).1, sortL, h1, h2, h]; rfl
theorem sort_int {n : Int} (h0 : 0 ≤ n) (h1 : n ≤ 9223372036854775807) : tokSort (Lib.itoa n) = 3 ∧ tokNum (Lib.itoa n) = n := by
  rw [Lib.itoa, if_neg (by omega)]; obtain ⟨d1, d2, d3, d4⟩ := dec_dig n.toNat; generalize hl : Lib.decDigits n.toNat = l at *; have hr : runL l = l.length := run_all fun c hc => dig_more (d1 c hc); have hr0 : runL l ≠ 0 := (by rw [hr]; simpa using d2); have hlit : litL l = some n := by
    rw [litL_dig d2 d1, if_neg (fun e => d4 e.1 e.2), if_pos (by rw [d3]; omega), d3]; simp; omega
  have hc : 48 ≤ (l.headD 0).toNat ∧ (l.headD 0).toNat ≤ 57 := by
    cases l with
    | nil => exact absurd rfl d2
    | cons c r => exact d1 c (by simp)
  have hsm : smallB (l.headD 0) = false ∧ greatB (l.headD 0) = false := by
    simp only [smallB, greatB, Bool.and_eq_false_iff, decide_eq_false_iff_not]; omega
  have hn : nameB l = false := (by unfold nameB; rw [hsm.1]; simp); have hg : conB l = false := (by unfold conB; rw [hsm.2]; simp); have hw : wordB l = false := by
    cases hw : wordB l
    · rfl
    · exfalso; simp only [wordB, List.any_eq_true, beq_iff_eq] at hw; obtain ⟨u, hu, rfl⟩ := hw; have : ∀ u ∈ wordsL, ¬ (48 ≤ (u.headD 0).toNat ∧ (u.headD 0).toNat ≤ 57) := by decide +kernel
      exact this _ hu hc
  constructor
  · rw [tokSort, if_neg d2, if_neg hr0, hr, List.take_length, sortL, hw, hn, hg, litB, hlit]; rfl
  · rw [tokNum, if_neg hr0, hr, List.take_length, numL, hw, hn, hg, litN, hlit]; rfl
/- The leaves of the parser at such tokens. -/
section
variable {ps r : List Tok} {xs : List Tx} {x : Tx}
theorem want_ok {s : Tx} (h : Begs (s :: xs) ps r) (hr : r ≠ []) : ∃ q, wantP s ps = some (.ok () q) ∧ Begs xs q r := by
  obtain ⟨t, q, rfl, ht, h⟩ := h; exact ⟨q, by rw [wantP, if_pos ht.1, if_neg (begs_ne h hr)], h⟩
theorem name_ok (hx : nameM false x = true) (h : Begs (x :: xs) ps r) (hr : r ≠ []) : ∃ q, nameP ps = some (.ok x q) ∧ Begs xs q r := by
  obtain ⟨t, q, rfl, ht, h⟩ := h; exact ⟨q, by rw [nameP, textP, if_pos (by rw [ht.2.1, psort_name hx]), if_neg (begs_ne h hr), ht.1], h⟩
theorem con_ok (hx : conM false x = true) (h : Begs (x :: xs) ps r) (hr : r ≠ []) : ∃ q, conP ps = some (.ok x q) ∧ Begs xs q r := by
  obtain ⟨t, q, rfl, ht, h⟩ := h; exact ⟨q, by rw [conP, textP, if_pos (by rw [ht.2.1, psort_con hx]), if_neg (begs_ne h hr), ht.1], h⟩
end
/-- a text of these begins the tokens -/
theorem at_ok {s x : Tx} {xs : List Tx} {ps r : List Tok} (h : Begs (x :: xs) ps r) : atP s ps = decide (x = s) := by
  obtain ⟨t, q, rfl, ht, _⟩ := h; rw [atP, ht.1]
theorem begs_len {a : List Tx} : ∀ {ps r : List Tok}, Begs a ps r → ps.length = a.length + r.length := by
  induction a with
  | nil => intro ps r h; rw [Begs] at h; simp [h]
  | cons x xs ih =>
    rintro ps r ⟨t, q, rfl, _, h⟩; have := ih h; simp only [List.length_cons]; omega
/-- parts with a sign between, told by what each is -/
theorem sepP_ok {X : Type} {s : Tx} {E : List Tok → Pr X} {T : X → List Tx} {Q : Tok → Prop} (hQ : ∀ u : Tok, u.text = s → Q u) {t : Tok} {r : List Tok} (ht : t.text ≠ s) (hQt : Q t) : ∀ (l : List X) (g : Nat) (acc : List X) (ps : List Tok),
    (∀ x ∈ l, ∀ ps t r, Q t → Begs (T x) ps (t :: r) → E ps = some (.ok x (t :: r))) → l.length < g → Begs (l.flatMap fun y => s :: T y) ps (t :: r) → sepP s E g acc ps = some (.ok (acc ++ l) (t :: r))
  | [], g, acc, ps, _, hg, h => by
    obtain ⟨g, rfl⟩ : ∃ k, g = k + 1 := ⟨g - 1, by simp at hg; omega⟩
    rw [List.flatMap_nil, Begs] at h
    subst h
    rw [sepP, if_neg ht, List.append_nil]
  | y :: m, g, acc, ps, hE, hg, h => by
    obtain ⟨g, rfl⟩ : ∃ k, g = k + 1 := ⟨g - 1, by simp at hg; omega⟩
    rw [List.flatMap_cons, List.cons_append] at h
    obtain ⟨u, q, rfl, hu, h⟩ := h
    obtain ⟨q2, h1, h2⟩ := begs_app h
    have hq2 : ∃ t2 r2, q2 = t2 :: r2 ∧ Q t2 := by
      cases m with
      | nil => rw [List.flatMap_nil, Begs] at h2; exact ⟨t, r, h2, hQt⟩
      | cons z m =>
        rw [List.flatMap_cons, List.cons_append] at h2; obtain ⟨t2, r2, rfl, ht2, _⟩ := h2; exact ⟨t2, r2, rfl, hQ t2 ht2.1⟩
    obtain ⟨t2, r2, rfl, hQ2⟩ := hq2; rw [sepP, if_pos hu.1, if_neg (begs_ne h1 (by simp)), hE y (by simp) q t2 r2 hQ2 h1, bindP_ok, sepP_ok hQ ht hQt m g (acc ++ [y]) _ (fun x hx => hE x (by simp [hx])) (by simp at hg; omega) h2]; simp
theorem separated_ok {X : Type} {s : Tx} {E : List Tok → Pr X} {T : X → List Tx} {Q : Tok → Prop} (hQ : ∀ u : Tok, u.text = s → Q u) {t : Tok} {r : List Tok} (ht : t.text ≠ s) (hQt : Q t) {l : List X} (hl : l ≠ []) {ps : List Tok}
    (hE : ∀ x ∈ l, ∀ ps t r, Q t → Begs (T x) ps (t :: r) → E ps = some (.ok x (t :: r))) (h : Begs (sepT s (l.map T)) ps (t :: r)) : separatedP s E ps = some (.ok l (t :: r)) := by
  cases l with
  | nil => exact absurd rfl hl
  | cons y m =>
    rw [List.map_cons, sepT, List.flatMap_map] at h; have hlen := begs_len h; obtain ⟨q2, h1, h2⟩ := begs_app h; have hl2 := begs_len h2; have hm : m.length ≤ (m.flatMap fun y => s :: T y).length := by
      clear h h2 hlen hl2 hE hl h1; induction m with
      | nil => simp
      | cons z m ih => simp only [List.flatMap_cons, List.length_append, List.length_cons]; omega
    have hq2 : ∃ t2 r2, q2 = t2 :: r2 ∧ Q t2 := by
      cases m with
      | nil => rw [List.flatMap_nil, Begs] at h2; exact ⟨t, r, h2, hQt⟩
      | cons z m =>
        rw [List.flatMap_cons, List.cons_append] at h2; obtain ⟨t2, r2, rfl, ht2, _⟩ := h2; exact ⟨t2, r2, rfl, hQ t2 ht2.1⟩
    obtain ⟨t2, r2, rfl, hQ2⟩ := hq2; have hps := begs_len h1; rw [separatedP, hE y (by simp) ps t2 r2 hQ2 h1, bindP_ok, sepP_ok hQ ht hQt m _ [y] _ (fun x hx => hE x (by simp [hx])) (by omega) h2]; rfl
theorem enclosed_ok {X : Type} {E : List Tok → Pr X} {l rr : Tx} {a : List Tx} {x : X} {ps R : List Tok} (hE : ∀ q c, IsT rr c → Begs a q (c :: R) → E q = some (.ok x (c :: R))) (h : Begs (l :: (a ++ [rr])) ps R) (hR : R ≠ []) : enclosedP l E rr ps = some (.ok x R) := by
  obtain ⟨q, h1, h2⟩ := want_ok h hR; obtain ⟨m, h3, h4⟩ := begs_app h2; obtain ⟨c, rfl, hc⟩ := begs_one h4; rw [enclosedP, h1, bindP_ok, hE q c hc h3, bindP_ok, wantP, if_pos hc.1, if_neg hR, bindP_ok]
theorem names_ok {s : Tx} (hs : s = commaT) {l : List Tx} (hl : l ≠ []) (hn : ∀ x ∈ l, nameM false x = true) {t : Tok} {r ps : List Tok} (ht : t.text ≠ commaT) (h : Begs (namesT s l) ps (t :: r)) : namesP ps = some (.ok l (t :: r)) := by
  subst hs; rw [namesT] at h; refine separated_ok (Q := fun _ => True) (T := fun x => [x]) (fun _ _ => trivial) ht trivial hl (fun x hx ps t r _ h => ?_) h; obtain ⟨q, h1, h2⟩ := name_ok (hn x hx) h (by simp); rw [Begs] at h2; rw [h1, h2]
theorem statics_ok {l : List Tx} (hn : ∀ x ∈ l, nameM false x = true) {u : Tx} (hu : u ≠ openB) {xs : List Tx} {ps r : List Tok} (h : Begs (staticsT l ++ u :: xs) ps r) (hr : r ≠ []) : ∃ q, staticsP ps = some (.ok l q) ∧ Begs (u :: xs) q r := by
  obtain ⟨q, h1, h2⟩ := begs_app h; have hq := begs_ne h2 hr; refine ⟨q, ?_, h2⟩; rw [staticsP, if_neg (begs_ne h hr)]; unfold staticsT at h1; by_cases hl : l = []
  · rw [if_pos hl, Begs] at h1; subst h1; rw [at_ok h2, if_neg (by simpa using hu), hl]
  · rw [if_neg hl] at h1; rw [at_ok (s := openB) h1, if_pos (by decide)]; refine enclosed_ok (fun q c hc h => names_ok rfl hl hn (by rw [hc.1]; decide) h) h1 hq
/- Expressions. -/
mutual
def dN : Ex → Nat
  | .mk _ _ _ _ ks => 1 + dNs ks
def dNs : List Ex → Nat
  | [] => 0
  | k :: r => max (dN k) (dNs r)
end
theorem dNs_le {l : List Ex} {k : Ex} (h : k ∈ l) : dN k ≤ dNs l := by
  induction l with
  | nil => cases h
  | cons x r ih =>
    rw [dNs]; rcases List.mem_cons.1 h with rfl | h
    · omega
    · have := ih h; omega
theorem dN_pos (x : Ex) : 1 ≤ dN x := by cases x; rw [dN]; omega
/-- what may stand behind a unary -/
def Calm (t : Tok) : Prop := t.text ≠ whenT' ∧ t.text ≠ everyT ∧ t.text ≠ openT ∧ t.text ≠ openB
def AtomG (f : Nat) (x : Ex) : Prop := ∀ o ps t r, o + 2 * dN x ≤ 102 → t.text ≠ openT → t.text ≠ openB → Begs (toksX x) ps (t :: r) → atomP (opX f 1) o ps = some (.ok x (t :: r))
def UnG (f : Nat) (x : Ex) : Prop := ∀ o ps t r, o + 2 * dN x ≤ 101 → Calm t → Begs (toksX x) ps (t :: r) → unX f ps o = some (.ok x (t :: r))
def OpG (f : Nat) (x : Ex) : Prop := ∀ s o ps t r, 1 ≤ s → s ≤ 8 → o + 2 * dN x ≤ 101 → Calm t → (∀ j, s ≤ j → j ≤ 7 → strongT t.text ≠ j) → Begs (toksX x) ps (t :: r) → opX f s ps o = some (.ok x (t :: r))
def BareT (u : Tx) : Prop := u ≠ notT ∧ u ≠ minusT ∧ u ≠ preT ∧ u ≠ ifT
theorem bare_sort {u : Tx} {k : Int} (h : tokSort u = k) (hk : k = 1 ∨ k = 2 ∨ k = 3) : BareT u := by
  have h1 : tokSort notT = 5 := (by decide +kernel); have h2 : tokSort minusT = 4 := (by decide +kernel); have h3 : tokSort preT = 5 := (by decide +kernel); have h4 : tokSort ifT = 5 := (by decide +kernel); refine ⟨?_, ?_, ?_, ?_⟩ <;> (rintro rfl; omega)
theorem loop_stop {f s : Nat} {e : Ex} {t : Tok} {r : List Tok} {o : Nat} (h : strongT t.text ≠ s) : loopX (f + 1) s e (t :: r) o = some (.ok e (t :: r)) := by rw [loopX, if_neg h]
theorem op_up {g o : Nat} {ps : List Tok} {x : Ex} {t : Tok} {r : List Tok} (h : unX g ps o = some (.ok x (t :: r))) : ∀ (d s : Nat), s + d = 8 → (∀ j, s ≤ j → j ≤ 7 → strongT t.text ≠ j) → opX (g + d + 1) s ps o = some (.ok x (t :: r)) := by
  intro d; induction d with
  | zero =>
    intro s hs _; obtain rfl : s = 8 := by omega
    rw [Nat.add_zero, opX, if_pos rfl]; exact h
  | succ d ih =>
    intro s hs ht; rw [show g + (d + 1) + 1 = (g + d + 1) + 1 by omega, opX, if_neg (by omega), ih (s + 1) (by omega) fun j h1 h2 => ht j (by omega) h2, bindP_ok, loop_stop (ht s (Nat.le_refl _) (by omega))]
theorem op_down {g o s : Nat} {ps : List Tok} {x : Ex} {t : Tok} {r : List Tok} (h : opX g s ps o = some (.ok x (t :: r))) (hs : s ≤ 8) (hg : 0 < g) : ∀ (d s' : Nat), s' + d = s → (∀ j, s' ≤ j → j ≤ 7 → strongT t.text ≠ j) → opX (g + d) s' ps o = some (.ok x (t :: r)) := by
  intro d; induction d with
  | zero =>
    intro s' e _; obtain rfl : s' = s := by omega
    exact h
  | succ d ih =>
    intro s' e ht; rw [show g + (d + 1) = (g + d) + 1 by omega, opX, if_neg (by omega), ih (s' + 1) (by omega) fun j h1 h2 => ht j (by omega) h2, bindP_ok]; obtain ⟨k, hk⟩ : ∃ k, g + d = k + 1 := ⟨g + d - 1, by omega⟩; rw [hk, loop_stop (ht s' (Nat.le_refl _) (by omega))]
theorem un_of_atom {f : Nat} {x : Ex} (ha : AtomG f x) {u : Tx} {us : List Tx} (hx : toksX x = u :: us) (hu : BareT u) : UnG (f + 1) x := by
  intro o ps t r ho hc h; have h' := h; rw [hx] at h'; obtain ⟨v, q, rfl, hv, _⟩ := h'; have hd := dN_pos x; obtain ⟨c1, c2, c3, c4⟩ := hc; obtain ⟨b1, b2, b3, b4⟩ := hu
  rw [unX, if_neg (by omega), prefixedP, if_neg (by rw [hv.1]; exact b1), if_neg (by rw [hv.1]; exact b2), if_neg (by rw [hv.1]; exact b3), if_neg (by rw [hv.1]; exact b4), sampledP, ha (o + 1) _ t r (by omega) c3 c4 h, bindP_ok, if_neg (fun g => by
    have := g.2; rw [atP] at this; exact c2 (of_decide_eq_true this)), whenP, if_neg c1]
theorem op_of_un {g f : Nat} {x : Ex} (hu : UnG g x) (hf : g + 8 ≤ f) : OpG f x := by
  intro s o ps t r hs1 hs8 ho hc ht h; have h1 := op_up (hu o ps t r ho hc h) (8 - s) s (by omega) ht; exact opX_le (by omega) s _ _ _ h1
end Go.Proofs.YtlhmdjhfmhkllaaGreatDoor

namespace Go.Proofs.YtlhmdjhfmhkllaaGreatDoor
theorem bind_mono1 {X Y : Type} {a : Pr X} {k k' : X → List Tok → Pr Y} (hk : ∀ x ts o, k x ts = some o → k' x ts = some o) : ∀ o, bindP a k = some o → bindP a k' = some o := bindP_mono (fun _ h => h) hk
theorem repeatP_mono {X : Type} {B : List Tok → Bool} {E E' : List Tok → Pr X} (h : LeE E E') : ∀ g acc, LeE (repeatP B E g acc) (repeatP B E' g acc) := by
  intro g; induction g with
  | zero => intro acc ts o h; cases h
  | succ g ih =>
    intro acc ts o h1; rw [repeatP] at h1 ⊢; split at h1
    · cases h1
    · rename_i h0; rw [if_neg h0]; split at h1
      · rename_i hb; rw [if_pos hb]; exact bindP_mono (h ts) (fun x ts => ih _ ts) o h1
      · rename_i hb; rw [if_neg hb]; exact h1
theorem repeatedP_mono {X : Type} {B : List Tok → Bool} {E E' : List Tok → Pr X} (h : LeE E E') : LeE (repeatedP B E) (repeatedP B E') := fun _ o h1 => repeatP_mono h _ _ _ o h1
section
variable {E E' : List Tok → Pr Ex} (h : LeE E E')
include h
theorem equationP_mono : LeE (equationP E) (equationP E') := fun _ o h1 =>
  bind_mono1 (fun _ _ => bind_mono1 fun _ ts => bindP_mono (h ts) fun _ _ _ h => h) o h1
theorem wayP_mono : LeE (wayP E) (wayP E') := fun _ o h1 =>
  bind_mono1 (fun _ ts => bindP_mono (h ts) fun _ _ _ h => h) o h1
theorem stateP_mono : LeE (stateP E) (stateP E') := fun _ o h1 =>
  bind_mono1 (fun _ _ => bind_mono1 fun _ _ => bind_mono1 fun _ ts => bindP_mono (repeatedP_mono (equationP_mono h) ts) fun _ ts => bindP_mono (repeatedP_mono (wayP_mono h) ts) fun _ _ _ h => h) o h1
theorem automatonP_mono : LeE (automatonP E) (automatonP E') := fun _ o h1 =>
  bind_mono1 (fun _ ts => bindP_mono (stateP_mono h ts) fun _ ts => bindP_mono (repeatedP_mono (stateP_mono h) ts) fun _ _ _ h => h) o h1
theorem itemP_mono : LeE (itemP E) (itemP E') := fun ts o h1 => by
  unfold itemP at h1 ⊢
  split
  · rename_i hc
    rw [if_pos hc] at h1
    exact bindP_mono (automatonP_mono h ts) (fun _ _ _ h => h) o h1
  · rename_i hc
    rw [if_neg hc] at h1
    exact bindP_mono (equationP_mono h ts) (fun _ _ _ h => h) o h1
theorem nodeP_mono : LeE (nodeP E) (nodeP E') := fun _ o h1 =>
  bind_mono1 (fun _ _ => bind_mono1 fun _ _ => bind_mono1 fun _ _ => bind_mono1 fun _ _ => bind_mono1 fun _ _ => bind_mono1 fun _ _ => bind_mono1 fun _ ts => bindP_mono (repeatedP_mono (itemP_mono h) ts) fun _ _ _ h => h) o h1
theorem programF_mono : ∀ g es ns, LeE (programF E g es ns) (programF E' g es ns) := by
  intro g; induction g with
  | zero => intro es ns ts o h; cases h
  | succ g ih =>
    intro es ns ts o h1; rw [programF] at h1 ⊢; split at h1
    · cases h1
    · rename_i h0; rw [if_neg h0]; split at h1
      · rename_i hb; rw [if_pos hb]; exact bind_mono1 (fun _ ts => ih _ _ ts) o h1
      · rename_i hb; rw [if_neg hb]; split at h1
        · rename_i hb; rw [if_pos hb]; exact bindP_mono (nodeP_mono h ts) (fun _ ts => ih _ _ ts) o h1
        · rename_i hb; rw [if_neg hb]; exact h1
theorem programP_mono : LeE (programP E) (programP E') := fun _ o h1 => programF_mono h _ _ _ _ o h1
end
theorem wholeP_mono {X : Type} {E E' : List Tok → Pr X} (h : LeE E E') : LeE (wholeP E) (wholeP E') := fun ts o h1 => bindP_mono (h ts) (fun _ _ _ h => h) o h1
/-- the parser by fuel -/
def progF (f : Nat) (ts : List Tok) : Pr QProg := wholeP (programP fun ts => opX f 1 ts 0) ts
def exprF (f : Nat) (ts : List Tok) : Pr Ex := wholeP (fun ts => opX f 1 ts 0) ts
theorem opX_leE {f g : Nat} (h : f ≤ g) : LeE (fun ts => opX f 1 ts 0) (fun ts => opX g 1 ts 0) := fun ts o h1 => opX_le h 1 ts 0 o h1
theorem progF_le {f g : Nat} (h : f ≤ g) : LeE (progF f) (progF g) := wholeP_mono (programP_mono (opX_leE h))
theorem exprF_le {f g : Nat} (h : f ≤ g) : LeE (exprF f) (exprF g) := wholeP_mono (opX_leE h)
open Classical in
/-- what tokens are as a program -/
noncomputable def progO (ts : List Tok) : Out QProg := if h : ∃ f o, progF f ts = some o then Classical.choose (Classical.choose_spec h) else .bad (0, 0, 0)
open Classical in
noncomputable def exprO (ts : List Tok) : Out Ex := if h : ∃ f o, exprF f ts = some o then Classical.choose (Classical.choose_spec h) else .bad (0, 0, 0)
theorem progO_eq {f : Nat} {ts : List Tok} {o : Out QProg} (h : progF f ts = some o) : progO ts = o := by
  have hx : ∃ f o, progF f ts = some o := ⟨f, o, h⟩; unfold progO; rw [dif_pos hx]; have h1 := Classical.choose_spec (Classical.choose_spec hx); have h2 := progF_le (Nat.le_add_right _ f) ts _ h1; have h3 := progF_le (Nat.le_add_left f (Classical.choose hx)) ts _ h; exact Option.some.inj (h2.symm.trans h3)
theorem exprO_eq {f : Nat} {ts : List Tok} {o : Out Ex} (h : exprF f ts = some o) : exprO ts = o := by
  have hx : ∃ f o, exprF f ts = some o := ⟨f, o, h⟩; unfold exprO; rw [dif_pos hx]; have h1 := Classical.choose_spec (Classical.choose_spec hx); have h2 := exprF_le (Nat.le_add_right _ f) ts _ h1; have h3 := exprF_le (Nat.le_add_left f (Classical.choose hx)) ts _ h; exact Option.some.inj (h2.symm.trans h3)
theorem progO_some {ts : List Tok} (he : Ended ts) : ∃ f, progF f ts = some (progO ts) := by
  obtain ⟨f, _, o, h⟩ := all_total he; exact ⟨f, by rw [progO_eq h]; exact h⟩
theorem exprO_some {ts : List Tok} (he : Ended ts) : ∃ f, exprF f ts = some (exprO ts) := by
  obtain ⟨f, ⟨o, h⟩, _⟩ := all_total he; exact ⟨f, by rw [exprO_eq h]; exact h⟩
/-- a text's tokens, or the first fault -/
def scanL (s : Tx) : List Tok ⊕ Flt := if 65536 < s.length then .inr (9, 0, 0) else match scanAll s with
  | (_, some q) => .inr (2, q.1, q.2)
  | (ts, none) => .inl ts
theorem ended_scanF : ∀ (f : Nat) (l : Tx) (p : Int × Int), (scanF f l p).2 = none → Ended (scanF f l p).1 := by
  intro f; induction f with
  | zero => intro l p h; simp [scanF] at h
  | succ f ih =>
    intro l p h; by_cases h0 : tokSort (l.drop (gapL l)) = 0
    · rw [scanF_none h0] at h; cases h
    · by_cases h6 : l.drop (gapL l) = []
      · rw [scanF_end (by rw [h6]; exact tokSort_end), h6]; exact ⟨tokSort_end, tokText_nil⟩
      · have h6' := tokSort_ne6 h6; rw [scanF_tok h0 h6'] at h ⊢; have := ih _ _ h; obtain ⟨u, r, e⟩ := List.exists_cons_of_ne_nil this.pos; simp only [e] at this ⊢; exact this
theorem ended_scan {s : Tx} {ts : List Tok} (h : scanL s = .inl ts) : Ended ts ∧ s.length ≤ 65536 ∧ scanAll s = (ts, none) := by
  unfold scanL at h; split at h
  · cases h
  · split at h
    · cases h
    · rename_i e; injection h with h; subst h; refine ⟨?_, by omega, e⟩; have := ended_scanF (s.length + 1) s (1, 1); rw [show scanF (s.length + 1) s (1, 1) = scanAll s from rfl, e] at this; exact this rfl
end Go.Proofs.YtlhmdjhfmhkllaaGreatDoor

namespace Go.Proofs.YtlhmdjhfmhkllaaGreatDoor
def ErrP {X : Type} (P : List Tok → Pr X) : Prop := ∀ ts f, P ts = some (.bad f) → f.1 ≠ 0
section
variable {X Y : Type} {P : List Tok → Pr X}
theorem ErrP.ok {x : X} : ErrP fun ts => some (.ok x ts) := fun _ _ h => by cases h
theorem ErrP.bind {K : X → List Tok → Pr Y} (h : ErrP P) (hk : ∀ x, ErrP (K x)) : ErrP fun ts => bindP (P ts) K := fun ts f e => by
  rcases bindP_some e with ⟨g, e1, e2⟩ | ⟨x, r, _, e2⟩
  · cases e2; exact h ts _ e1
  · exact hk x r f e2
theorem ErrP.guard {c : List Tok → Prop} [∀ ts, Decidable (c ts)] (h : ErrP P) : ErrP fun ts => if c ts then none else P ts := fun ts f e => by
  replace e : (if c ts then none else P ts) = _ := e
  split at e
  · cases e
  · exact h ts f e
theorem ErrP.ite {c : List Tok → Prop} [∀ ts, Decidable (c ts)] {Q : List Tok → Pr X} (h : ErrP P) (hq : ErrP Q) : ErrP fun ts => if c ts then P ts else Q ts := fun ts f e => by
  replace e : (if c ts then P ts else Q ts) = _ := e
  split at e
  · exact h ts f e
  · exact hq ts f e
end
theorem want_err (s : Tx) : ErrP (wantP s) := fun ts f h => by
  cases ts with
  | nil => cases h
  | cons t r =>
    rw [wantP] at h
    split at h
    · split at h <;> cases h
    · cases h; simp [faultT]
theorem text_err (k : Int) : ErrP (textP k) := fun ts f h => by
  cases ts with
  | nil => cases h
  | cons t r =>
    rw [textP] at h
    split at h
    · split at h <;> cases h
    · cases h; simp [faultT]
section
variable {X : Type} {E : List Tok → Pr X} (hE : ErrP E)
include hE
theorem sepP_err (s : Tx) : ∀ g acc, ErrP (sepP s E g acc) := by
  intro g; induction g with
  | zero => intro acc ts f h; cases h
  | succ g ih =>
    intro acc ts f h; cases ts with
    | nil => rw [sepP] at h; cases h
    | cons t r =>
      rw [sepP] at h; split at h
      · split at h
        · cases h
        · exact (hE.bind fun x => ih (acc ++ [x])) r f h
      · cases h
theorem separated_err (s : Tx) : ErrP (separatedP s E) := fun ts f h => (hE.bind fun x => sepP_err hE s (ts.length + 1) [x]) ts f h
theorem repeatP_err (B : List Tok → Bool) : ∀ g acc, ErrP (repeatP B E g acc) := by
  intro g; induction g with
  | zero => intro acc ts f h; cases h
  | succ g ih =>
    intro acc ts f h; rw [repeatP] at h; split at h
    · cases h
    · split at h
      · exact (hE.bind fun x => ih (acc ++ [x])) ts f h
      · cases h
theorem repeated_err (B : List Tok → Bool) : ErrP (repeatedP B E) := fun ts f h => repeatP_err hE B _ _ ts f h
theorem enclosed_err (l r : Tx) : ErrP (enclosedP l E r) := (want_err l).bind fun _ => hE.bind fun _ => (want_err r).bind fun _ => .ok
end
theorem names_err : ErrP namesP := separated_err (text_err 1) commaT
theorem statics_err : ErrP staticsP := ErrP.guard (ErrP.ite (enclosed_err names_err openB shutB) .ok)
section
variable {E : PrX} (hE : ∀ o, ErrP fun ts => E ts o)
include hE
theorem named_err (o : Nat) : ErrP (namedP E o) := (text_err 1).bind fun _ => ErrP.guard (ErrP.ite .ok (statics_err.bind fun _ => (enclosed_err (separated_err (hE o) commaT) openT shutT).bind fun _ => .ok))
theorem arm_err (o : Nat) : ErrP (armP E o) := (text_err 2).bind fun _ => (want_err arrowT).bind fun _ => (hE o).bind fun _ => .ok
theorem choices_err (op : Int) (o : Nat) : ErrP (choicesP E op o) := (text_err 1).bind fun _ => (enclosed_err (separated_err (arm_err hE o) barT) openT shutT).bind fun _ => .ok
theorem atom_err (o : Nat) : ErrP (atomP E o) := fun ts f h => by
  cases ts with
  | nil => cases h
  | cons t r =>
    unfold atomP at h
    dsimp only at h
    split at h
    · split at h <;> cases h
    split at h
    · exact ((text_err 2).bind fun _ => .ok) _ f h
    split at h
    · exact named_err hE o _ f h
    split at h
    · split at h <;> cases h
    split at h
    · split at h <;> cases h
    split at h
    · split at h
      · cases h
      · exact choices_err hE 12 o _ f h
    split at h
    · split at h
      · cases h
      · exact choices_err hE 13 o _ f h
    split at h
    · exact enclosed_err (hE o) openT shutT _ f h
    · cases h; simp [faultT]
theorem choice_err (o : Nat) : ErrP (choiceP E o) := (want_err ifT).bind fun _ => (hE o).bind fun _ => (want_err thenT).bind fun _ => (hE o).bind fun _ => (want_err elseT).bind fun _ => (hE o).bind fun _ => .ok
end
theorem when_err : ∀ g e, ErrP (whenP g e) := by
  intro g; induction g with
  | zero => intro e ts f h; cases h
  | succ g ih =>
    intro e ts f h; cases ts with
    | nil => rw [whenP] at h; cases h
    | cons t r =>
      rw [whenP] at h; split at h
      · split at h
        · cases h
        · exact ((text_err 2).bind fun c => (enclosed_err (text_err 1) openT shutT).bind fun x => ih (.mk 11 x 0 [c] [e])) r f h
      · cases h
section
variable {U E : PrX} (hU : ∀ o, ErrP fun ts => U ts o) (hE : ∀ o, ErrP fun ts => E ts o)
include hU hE
theorem sampled_err (o : Nat) : ErrP (sampledP U E o) := (atom_err hE o).bind fun e ts f h => by
  split at h
  · split at h
    · cases h
    · exact ((hU o).bind fun k ts f h => when_err _ _ ts f h) _ f h
  · exact when_err _ _ ts f h
theorem prefixed_err (o : Nat) : ErrP (prefixedP U E o) := fun ts f h => by
  cases ts with
  | nil => cases h
  | cons t r =>
    unfold prefixedP at h
    dsimp only at h
    split at h
    · split at h
      · cases h
      · exact ((hU o).bind fun k => .ok) _ f h
    split at h
    · split at h
      · cases h
      · exact ((hU o).bind fun k => .ok) _ f h
    split at h
    · split at h
      · cases h
      · exact ((hU o).bind fun k => .ok) _ f h
    split at h
    · exact choice_err hE o _ f h
    · exact sampled_err hU hE o _ f h
end
theorem all_err : ∀ f : Nat, (∀ s o, ErrP fun ts => opX f s ts o) ∧ (∀ s e o, ErrP fun ts => loopX f s e ts o) ∧ ∀ o, ErrP fun ts => unX f ts o := by
  intro n; induction n with
  | zero =>
    refine ⟨fun s o ts f h => ?_, fun s e o ts f h => ?_, fun o ts f h => ?_⟩
    · replace h : opX 0 s ts o = _ := h; rw [opX] at h; cases h
    · replace h : loopX 0 s e ts o = _ := h; rw [loopX] at h; cases h
    · replace h : unX 0 ts o = _ := h; rw [unX] at h; cases h
  | succ n ih =>
    obtain ⟨i1, i2, i3⟩ := ih; refine ⟨fun s o ts f h => ?_, fun s e o ts f h => ?_, fun o ts f h => ?_⟩
    · replace h : opX (n + 1) s ts o = _ := h; rw [opX] at h; split at h
      · exact i3 o ts f h
      · exact ((i1 (s + 1) o).bind fun e => i2 s e o) ts f h
    · replace h : loopX (n + 1) s e ts o = _ := h; cases ts with
      | nil => rw [loopX] at h; cases h
      | cons t r =>
        rw [loopX] at h; split at h
        · split at h
          · cases h
          · split at h
            · exact ((i1 s o).bind fun e => .ok) r f h
            · split at h
              · exact ((i1 (s + 1) o).bind fun e => .ok) r f h
              · exact ((i1 (s + 1) o).bind fun x => i2 s _ o) r f h
        · cases h
    · replace h : unX (n + 1) ts o = _ := h; cases ts with
      | nil => rw [unX] at h; cases h
      | cons t r =>
        rw [unX] at h; split at h
        · cases h; simp [faultT]
        · exact prefixed_err i3 (i1 1) (o + 1) _ f h
theorem enum_err : ErrP enumP := (want_err typeW).bind fun _ => (text_err 1).bind fun _ => (want_err eqSign).bind fun _ => (separated_err (text_err 2) barT).bind fun _ => (want_err semiT).bind fun _ => .ok
section
variable {E : List Tok → Pr Ex} (hE : ErrP E)
include hE
theorem equation_err : ErrP (equationP E) := (ErrP.ite (enclosed_err names_err openT shutT) ((text_err 1).bind fun _ => .ok) : ErrP definedP).bind fun _ => (want_err eqSign).bind fun _ => hE.bind fun _ => (want_err semiT).bind fun _ => .ok
theorem way_err : ErrP (wayP E) := (want_err untilT).bind fun _ => hE.bind fun _ => (want_err thenT).bind fun _ => (text_err 2).bind fun _ => (want_err semiT).bind fun _ => .ok
theorem state_err : ErrP (stateP E) := (want_err stateW).bind fun _ => (text_err 2).bind fun _ => (want_err colonT).bind fun _ => (repeated_err (equation_err hE) _).bind fun _ => (repeated_err (way_err hE) _).bind fun _ => .ok
theorem automaton_err : ErrP (automatonP E) := (want_err autoT).bind fun _ => (state_err hE).bind fun _ => (repeated_err (state_err hE) _).bind fun _ => (want_err endW).bind fun _ => (want_err semiT).bind fun _ => .ok
theorem item_err : ErrP (itemP E) := ErrP.ite ((automaton_err hE).bind fun _ => .ok) ((equation_err hE).bind fun _ => .ok)
theorem node_err : ErrP (nodeP E) := (want_err nodeW).bind fun _ => (text_err 1).bind fun _ => statics_err.bind fun _ => (enclosed_err names_err openT shutT).bind fun _ => (want_err eqSign).bind fun _ => (enclosed_err names_err openT shutT).bind fun _ => (want_err whereT).bind fun _ => (repeated_err (item_err hE) _).bind fun _ => (want_err endW).bind fun _ => .ok
theorem programF_err : ∀ g es ns, ErrP (programF E g es ns) := by
  intro g; induction g with
  | zero => intro es ns ts f h; cases h
  | succ g ih =>
    intro es ns ts f h; rw [programF] at h; split at h
    · cases h
    · split at h
      · exact (enum_err.bind fun e => ih (es ++ [e]) ns) ts f h
      · split at h
        · exact ((node_err hE).bind fun n => ih es (ns ++ [n])) ts f h
        · cases h
end
theorem wholeP_err {X : Type} {E : List Tok → Pr X} (hE : ErrP E) : ErrP (wholeP E) := hE.bind fun x ts f h => by
  cases ts with
  | nil => cases h
  | cons t r =>
    replace h : (if t.sort = 6 then some (Out.ok x (t :: r)) else some (.bad (faultT 3 t))) = some (.bad f) := h
    split at h
    · cases h
    · cases h; simp [faultT]
theorem progO_err {ts : List Tok} {f : Flt} (he : Ended ts) (h : progO ts = .bad f) : f.1 ≠ 0 := by
  obtain ⟨n, hn⟩ := progO_some he; rw [h] at hn; exact wholeP_err (fun ts f h => programF_err ((all_err n).1 1 0) _ _ _ ts f h) ts f hn
end Go.Proofs.YtlhmdjhfmhkllaaGreatDoor
