/-
  Texts joined.
-/
import Derived.Test.YtoajfnfhphoaeaaGreatDoorKj02
namespace Go.Proofs.YtoajfnfhphoaeaaGreatDoor
def eqSign : Tx := [61]
def semiT : Tx := [59]
def colonT : Tx := [58]
def untilT : Tx := [117, 110, 116, 105, 108]
def stateW : Tx := [115, 116, 97, 116, 101]
def autoT : Tx := [97, 117, 116, 111, 109, 97, 116, 111, 110]
def endW : Tx := [101, 110, 100]
def typeW : Tx := [116, 121, 112, 101]
def nodeW : Tx := [110, 111, 100, 101]
def whereT : Tx := [119, 104, 101, 114, 101]
def atEqP : List Tok → Bool
  | [] => false
  | t :: _ => decide (t.sort = 1) || decide (t.text = openT)
def definedP (ts : List Tok) : Pr (List Tx) := if atP openT ts = true then enclosedP openT namesP shutT ts else bindP (nameP ts) fun n ts => some (.ok [n] ts)
section
variable (E : List Tok → Pr Ex)
def equationP (ts : List Tok) : Pr QEq :=
  bindP (definedP ts) fun l ts => bindP (wantP eqSign ts) fun _ ts => bindP (E ts) fun e ts => bindP (wantP semiT ts) fun _ ts => some (.ok ⟨l, e⟩ ts)
def wayP (ts : List Tok) : Pr QWay :=
  bindP (wantP untilT ts) fun _ ts => bindP (E ts) fun e ts => bindP (wantP thenT ts) fun _ ts => bindP (conP ts) fun c ts => bindP (wantP semiT ts) fun _ ts => some (.ok ⟨e, c⟩ ts)
def stateP (ts : List Tok) : Pr QState :=
  bindP (wantP stateW ts) fun _ ts => bindP (conP ts) fun c ts => bindP (wantP colonT ts) fun _ ts =>
    bindP (repeatedP atEqP (equationP E) ts) fun l ts => bindP (repeatedP (atP untilT) (wayP E) ts) fun y ts => some (.ok ⟨c, l, y⟩ ts)
def automatonP (ts : List Tok) : Pr (List QState) :=
  bindP (wantP autoT ts) fun _ ts => bindP (stateP E ts) fun s ts => bindP (repeatedP (atP stateW) (stateP E) ts) fun l ts =>
    bindP (wantP endW ts) fun _ ts => bindP (wantP semiT ts) fun _ ts => some (.ok (s :: l) ts)
def itemP (ts : List Tok) : Pr QItem :=
  if atP autoT ts = true then bindP (automatonP E ts) fun l ts => some (.ok ⟨⟨[], .mk 0 [] 0 [] []⟩, l⟩ ts)
  else bindP (equationP E ts) fun q ts => some (.ok ⟨q, []⟩ ts)
def atItemP (ts : List Tok) : Bool := atP autoT ts || atEqP ts
def nodeP (ts : List Tok) : Pr QNode :=
  bindP (wantP nodeW ts) fun _ ts => bindP (nameP ts) fun n ts => bindP (staticsP ts) fun fs ts => bindP (enclosedP openT namesP shutT ts) fun is ts =>
    bindP (wantP eqSign ts) fun _ ts => bindP (enclosedP openT namesP shutT ts) fun os ts => bindP (wantP whereT ts) fun _ ts =>
      bindP (repeatedP atItemP (itemP E) ts) fun l ts => bindP (wantP endW ts) fun _ ts => some (.ok ⟨n, fs, is, os, l⟩ ts)
def enumP (ts : List Tok) : Pr QEnum :=
  bindP (wantP typeW ts) fun _ ts => bindP (nameP ts) fun n ts => bindP (wantP eqSign ts) fun _ ts => bindP (separatedP barT conP ts) fun l ts =>
    bindP (wantP semiT ts) fun _ ts => some (.ok ⟨n, l⟩ ts)
def programF : Nat → List QEnum → List QNode → List Tok → Pr QProg
  | 0, _, _, _ => none
  | g + 1, es, ns, ts =>
    if ts = [] then none else if atP typeW ts = true then bindP (enumP ts) fun e ts => programF g (es ++ [e]) ns ts
    else if atP nodeW ts = true then bindP (nodeP E ts) fun n ts => programF g es (ns ++ [n]) ts
    else some (.ok ⟨es, ns⟩ ts)
def programP (ts : List Tok) : Pr QProg := programF E (ts.length + 1) [] [] ts
end
/-- all tokens of a text -/
def wholeP {X : Type} (E : List Tok → Pr X) (ts : List Tok) : Pr X :=
  bindP (E ts) fun x ts => match ts with | [] => none | t :: r => if t.sort = 6 then some (.ok x (t :: r)) else some (.bad (faultT 3 t))
theorem repeat_fine {X : Type} {B : List Tok → Bool} {E : List Tok → Pr X} {n : Nat} (hE : TotE n E) : ∀ g acc ts, ts.length < g → ts.length ≤ n → Ended ts → Fine ts.length (repeatP B E g acc ts) := by
  intro g; induction g with
  | zero => intro acc ts h; omega
  | succ g ih =>
    intro acc ts hg hn he; rw [repeatP, if_neg he.pos]; split
    · have := List.length_pos_iff.2 he.pos; refine (hE.le hn he).bind fun x ts' h3 h4 => ?_; exact (ih _ ts' (by omega) (by omega) h3).mono (by omega)
    · exact Fine.ok he (Nat.le_refl _)
theorem repeated_fine {X : Type} {B : List Tok → Bool} {E : List Tok → Pr X} {n : Nat} (hE : TotE n E) {ts : List Tok} (hn : ts.length ≤ n) (he : Ended ts) : Fine ts.length (repeatedP B E ts) := repeat_fine hE _ _ ts (by omega) hn he
theorem names_tot (n : Nat) : TotE n namesP := separated_tot (by decide) (name_tot n)
theorem defined_tot (n : Nat) : TotE n definedP := by
  intro ts m h hm he; unfold definedP; split
  · exact enclosed_tot' (by decide) (by decide) (names_tot n) ts m h hm he
  · exact (name_tot n ts m h hm he).bind fun x ts1 h1 h2 => Fine.ok h1 h2
section
variable {E : List Tok → Pr Ex} {n : Nat} (hE : TotE n E)
include hE
theorem equation_tot : TotE n (equationP E) := by
  intro ts m h hm he; refine (defined_tot n ts m h hm he).bind fun l ts1 h1 h2 => ?_; refine (want_fine (by decide) h1 (n := m) (by omega)).bind fun _ ts2 h3 h4 => ?_; refine (hE.le (by omega) h3).bind fun e ts3 h5 h6 => ?_; exact (want_fine (by decide) h5 (n := m) (by omega)).bind fun _ ts4 h7 h8 => Fine.ok h7 h8
theorem way_tot : TotE n (wayP E) := by
  intro ts m h hm he; refine (want_fine (by decide) he (n := m) (by omega)).bind fun _ ts1 h1 h2 => ?_; refine (hE.le (by omega) h1).bind fun e ts2 h3 h4 => ?_; refine (want_fine (by decide) h3 (n := m) (by omega)).bind fun _ ts3 h5 h6 => ?_; refine ((con_tot n).le (by omega) h5).bind fun c ts4 h7 h8 => ?_; exact (want_fine (by decide) h7 (n := m) (by omega)).bind fun _ ts5 h9 h10 => Fine.ok h9 h10
theorem state_tot : TotE n (stateP E) := by
  intro ts m h hm he; refine (want_fine (by decide) he (n := m) (by omega)).bind fun _ ts1 h1 h2 => ?_; refine ((con_tot n).le (by omega) h1).bind fun c ts2 h3 h4 => ?_; refine (want_fine (by decide) h3 (n := m) (by omega)).bind fun _ ts3 h5 h6 => ?_; refine (repeated_fine (equation_tot hE) (by omega) h5).bind fun l ts4 h7 h8 => ?_; refine (repeated_fine (way_tot hE) (by omega) h7).bind fun y ts5 h9 h10 => ?_; exact Fine.ok h9 (by omega)
theorem automaton_tot : TotE n (automatonP E) := by
  intro ts m h hm he; refine (want_fine (by decide) he (n := m) (by omega)).bind fun _ ts1 h1 h2 => ?_; refine ((state_tot hE).le (by omega) h1).bind fun s ts2 h3 h4 => ?_; refine (repeated_fine (state_tot hE) (by omega) h3).bind fun l ts3 h5 h6 => ?_; refine (want_fine (by decide) h5 (n := m) (by omega)).bind fun _ ts4 h7 h8 => ?_; exact (want_fine (by decide) h7 (n := m) (by omega)).bind fun _ ts5 h9 h10 => Fine.ok h9 h10
theorem item_tot : TotE n (itemP E) := by
  intro ts m h hm he; unfold itemP; split
  · exact (automaton_tot hE ts m h hm he).bind fun l ts1 h1 h2 => Fine.ok h1 h2
  · exact (equation_tot hE ts m h hm he).bind fun l ts1 h1 h2 => Fine.ok h1 h2
theorem node_tot : TotE n (nodeP E) := by
  intro ts m h hm he; refine (want_fine (by decide) he (n := m) (by omega)).bind fun _ ts1 h1 h2 => ?_; refine ((name_tot n).le (by omega) h1).bind fun c ts2 h3 h4 => ?_; refine (statics_fine h3).bind fun fs ts3 h5 h6 => ?_; refine ((enclosed_tot' (by decide) (by decide) (names_tot n)).le (by omega) h5).bind fun is ts4 h7 h8 => ?_; refine (want_fine (by decide) h7 (n := m) (by omega)).bind fun _ ts5 h9 h10 => ?_; refine ((enclosed_tot' (by decide) (by decide) (names_tot n)).le (by omega) h9).bind fun os ts6 h11 h12 => ?_; refine (want_fine (by decide) h11 (n := m) (by omega)).bind fun _ ts7 h13 h14 => ?_; refine (repeated_fine (item_tot hE) (by omega) h13).bind fun l ts8 h15 h16 => ?_; exact (want_fine (by decide) h15 (n := m) (by omega)).bind fun _ ts9 h17 h18 => Fine.ok h17 h18
omit hE in
theorem enum_tot : TotE n enumP := by
  intro ts m h hm he; refine (want_fine (by decide) he (n := m) (by omega)).bind fun _ ts1 h1 h2 => ?_; refine ((name_tot n).le (by omega) h1).bind fun c ts2 h3 h4 => ?_; refine (want_fine (by decide) h3 (n := m) (by omega)).bind fun _ ts3 h5 h6 => ?_; refine ((separated_tot (by decide) (con_tot n)).le (by omega) h5).bind fun l ts4 h7 h8 => ?_; exact (want_fine (by decide) h7 (n := m) (by omega)).bind fun _ ts5 h9 h10 => Fine.ok h9 h10
theorem program_fine : ∀ g es ns ts, ts.length < g → ts.length ≤ n → Ended ts → Fine ts.length (programF E g es ns ts) := by
  intro g; induction g with
  | zero => intro es ns ts h; omega
  | succ g ih =>
    intro es ns ts hg hn he; have := List.length_pos_iff.2 he.pos; rw [programF, if_neg he.pos]; split
    · refine ((enum_tot (n := n)).le hn he).bind fun x ts' h3 h4 => ?_; exact (ih _ _ ts' (by omega) (by omega) h3).mono (by omega)
    · split
      · refine ((node_tot hE).le hn he).bind fun x ts' h3 h4 => ?_; exact (ih _ _ ts' (by omega) (by omega) h3).mono (by omega)
      · exact Fine.ok he (Nat.le_refl _)
end
theorem whole_some {X : Type} {E : List Tok → Pr X} {ts : List Tok} {n : Nat} (h : Fine n (E ts)) : ∃ o, wholeP E ts = some o := by
  obtain ⟨o, h1, h2⟩ := h; unfold wholeP; rw [h1]; cases o with
  | bad f => exact ⟨_, rfl⟩
  | ok x r =>
    obtain ⟨h3, _⟩ := h2 x r rfl; cases r with
    | nil => exact absurd h3 id
    | cons t r => by_cases h : t.sort = 6 <;> simp [bindP, h]
/-- each text's tokens have an answer: as an expression, as a program -/
theorem all_total {ts : List Tok} (he : Ended ts) : ∃ f, (∃ o, wholeP (fun ts => opX f 1 ts 0) ts = some o) ∧ ∃ o, wholeP (programP fun ts => opX f 1 ts 0) ts = some o := by
  obtain ⟨F, hF⟩ := all_tot ts.length; have hE : TotE ts.length fun ts => opX F 1 ts 0 := (hF F (Nat.le_refl _)).2 1 (by omega) (by omega) 0; exact ⟨F, whole_some (hE.le (Nat.le_refl _) he), whole_some (program_fine hE _ _ _ ts (by omega) (Nat.le_refl _) he)⟩
end Go.Proofs.YtoajfnfhphoaeaaGreatDoor

namespace Go.Proofs.YtoajfnfhphoaeaaGreatDoor
theorem bind_mono1 {X Y : Type} {a : Pr X} {k k' : X → List Tok → Pr Y} (hk : ∀ x ts o, k x ts = some o → k' x ts = some o) : ∀ o, bindP a k = some o → bindP a k' = some o := bindP_mono (fun _ h => h) hk
theorem repeatP_mono {X : Type} {B : List Tok → Bool} {E E' : List Tok → Pr X} (h : LeE E E') : ∀ g acc, LeE (repeatP B E g acc) (repeatP B E' g acc) := by
  intro g; induction g with
  | zero => intro acc ts o h; cases h
  | succ g ih =>
    intro acc ts o h1; rw [repeatP] at h1 ⊢; split at h1
    · cases h1
    · rename_i h0; rw [if_neg h0]; split at h1
      · rename_i hb; rw [if_pos hb]; exact bindP_mono (h ts) (fun x ts => ih _ ts) o h1
      · rename_i hb; rw [if_neg hb]; exact h1
theorem repeatedP_mono {X : Type} {B : List Tok → Bool} {E E' : List Tok → Pr X} (h : LeE E E') : LeE (repeatedP B E) (repeatedP B E') := fun _ o h1 => repeatP_mono h _ _ _ o h1
section
variable {E E' : List Tok → Pr Ex} (h : LeE E E')
include h
theorem equationP_mono : LeE (equationP E) (equationP E') := fun _ o h1 =>
  bind_mono1 (fun _ _ => bind_mono1 fun _ ts => bindP_mono (h ts) fun _ _ _ h => h) o h1
theorem wayP_mono : LeE (wayP E) (wayP E') := fun _ o h1 =>
  bind_mono1 (fun _ ts => bindP_mono (h ts) fun _ _ _ h => h) o h1
theorem stateP_mono : LeE (stateP E) (stateP E') := fun _ o h1 =>
  bind_mono1 (fun _ _ => bind_mono1 fun _ _ => bind_mono1 fun _ ts => bindP_mono (repeatedP_mono (equationP_mono h) ts) fun _ ts => bindP_mono (repeatedP_mono (wayP_mono h) ts) fun _ _ _ h => h) o h1
theorem automatonP_mono : LeE (automatonP E) (automatonP E') := fun _ o h1 =>
  bind_mono1 (fun _ ts => bindP_mono (stateP_mono h ts) fun _ ts => bindP_mono (repeatedP_mono (stateP_mono h) ts) fun _ _ _ h => h) o h1
theorem itemP_mono : LeE (itemP E) (itemP E') := fun ts o h1 => by
  unfold itemP at h1 ⊢
  split
  · rename_i hc
    rw [if_pos hc] at h1
    exact bindP_mono (automatonP_mono h ts) (fun _ _ _ h => h) o h1
  · rename_i hc
    rw [if_neg hc] at h1
    exact bindP_mono (equationP_mono h ts) (fun _ _ _ h => h) o h1
theorem nodeP_mono : LeE (nodeP E) (nodeP E') := fun _ o h1 =>
  bind_mono1 (fun _ _ => bind_mono1 fun _ _ => bind_mono1 fun _ _ => bind_mono1 fun _ _ => bind_mono1 fun _ _ => bind_mono1 fun _ _ => bind_mono1 fun _ ts => bindP_mono (repeatedP_mono (itemP_mono h) ts) fun _ _ _ h => h) o h1
theorem programF_mono : ∀ g es ns, LeE (programF E g es ns) (programF E' g es ns) := by
  intro g; induction g with
  | zero => intro es ns ts o h; cases h
  | succ g ih =>
    intro es ns ts o h1; rw [programF] at h1 ⊢; split at h1
    · cases h1
    · rename_i h0; rw [if_neg h0]; split at h1
      · rename_i hb; rw [if_pos hb]; exact bind_mono1 (fun _ ts => ih _ _ ts) o h1
      · rename_i hb; rw [if_neg hb]; split at h1
        · rename_i hb; rw [if_pos hb]; exact bindP_mono (nodeP_mono h ts) (fun _ ts => ih _ _ ts) o h1
        · rename_i hb; rw [if_neg hb]; exact h1
theorem programP_mono : LeE (programP E) (programP E') := fun _ o h1 => programF_mono h _ _ _ _ o h1
end
theorem wholeP_mono {X : Type} {E E' : List Tok → Pr X} (h : LeE E E') : LeE (wholeP E) (wholeP E') := fun ts o h1 => bindP_mono (h ts) (fun _ _ _ h => h) o h1
/-- the parser by fuel -/
def progF (f : Nat) (ts : List Tok) : Pr QProg := wholeP (programP fun ts => opX f 1 ts 0) ts
def exprF (f : Nat) (ts : List Tok) : Pr Ex := wholeP (fun ts => opX f 1 ts 0) ts
theorem opX_leE {f g : Nat} (h : f ≤ g) : LeE (fun ts => opX f 1 ts 0) (fun ts => opX g 1 ts 0) := fun ts o h1 => opX_le h 1 ts 0 o h1
theorem progF_le {f g : Nat} (h : f ≤ g) : LeE (progF f) (progF g) := wholeP_mono (programP_mono (opX_leE h))
theorem exprF_le {f g : Nat} (h : f ≤ g) : LeE (exprF f) (exprF g) := wholeP_mono (opX_leE h)
open Classical in
/-- what tokens are as a program -/
noncomputable def progO (ts : List Tok) : Out QProg := if h : ∃ f o, progF f ts = some o then Classical.choose (Classical.choose_spec h) else .bad (0, 0, 0)
open Classical in
noncomputable def exprO (ts : List Tok) : Out Ex := if h : ∃ f o, exprF f ts = some o then Classical.choose (Classical.choose_spec h) else .bad (0, 0, 0)
theorem progO_eq {f : Nat} {ts : List Tok} {o : Out QProg} (h : progF f ts = some o) : progO ts = o := by
  have hx : ∃ f o, progF f ts = some o := ⟨f, o, h⟩; unfold progO; rw [dif_pos hx]; have h1 := Classical.choose_spec (Classical.choose_spec hx); have h2 := progF_le (Nat.le_add_right _ f) ts _ h1; have h3 := progF_le (Nat.le_add_left f (Classical.choose hx)) ts _ h; exact Option.some.inj (h2.symm.trans h3)
theorem exprO_eq {f : Nat} {ts : List Tok} {o : Out Ex} (h : exprF f ts = some o) : exprO ts = o := by
  have hx : ∃ f o, exprF f ts = some o := ⟨f, o, h⟩; unfold exprO; rw [dif_pos hx]; have h1 := Classical.choose_spec (Classical.choose_spec hx); have h2 := exprF_le (Nat.le_add_right _ f) ts _ h1; have h3 := exprF_le (Nat.le_add_left f (Classical.choose hx)) ts _ h; exact Option.some.inj (h2.symm.trans h3)
theorem progO_some {ts : List Tok} (he : Ended ts) : ∃ f, progF f ts = some (progO ts) := by
  obtain ⟨f, _, o, h⟩ := all_total he; exact ⟨f, by rw [progO_eq h]; exact h⟩
theorem exprO_some {ts : List Tok} (he : Ended ts) : ∃ f, exprF f ts = some (exprO ts) := by
  obtain ⟨f, ⟨o, h⟩, _⟩ := all_total he; exact ⟨f, by rw [exprO_eq h]; exact h⟩
/-- a text's tokens, or the first fault -/
def scanL (s : Tx) : List Tok ⊕ Flt := if 65536 < s.length then .inr (9, 0, 0) else match scanAll s with
  | (_, some q) => .inr (2, q.1, q.2)
  | (ts, none) => .inl ts
theorem ended_scanF : ∀ (f : Nat) (l : Tx) (p : Int × Int), (scanF f l p).2 = none → Ended (scanF f l p).1 := by
  intro f; induction f with
  | zero => intro l p h; simp [scanF] at h
  | succ f ih =>
    intro l p h; by_cases h0 : tokSort (l.drop (gapL l)) = 0
    · rw [scanF_none h0] at h; cases h
    · by_cases h6 : l.drop (gapL l) = []
      · rw [scanF_end (by rw [h6]; exact tokSort_end), h6]; exact ⟨tokSort_end, tokText_nil⟩
      · have h6' := tokSort_ne6 h6; rw [scanF_tok h0 h6'] at h ⊢; have := ih _ _ h; obtain ⟨u, r, e⟩ := List.exists_cons_of_ne_nil this.pos; simp only [e] at this ⊢; exact this
theorem ended_scan {s : Tx} {ts : List Tok} (h : scanL s = .inl ts) : Ended ts ∧ s.length ≤ 65536 ∧ scanAll s = (ts, none) := by
  unfold scanL at h; split at h
  · cases h
  · split at h
    · cases h
    · rename_i e; injection h with h; subst h; refine ⟨?_, by omega, e⟩; have := ended_scanF (s.length + 1) s (1, 1); rw [show scanF (s.length + 1) s (1, 1) = scanAll s from rfl, e] at this; exact this rfl
end Go.Proofs.YtoajfnfhphoaeaaGreatDoor

namespace Go.Proofs.YtoajfnfhphoaeaaGreatDoor
/- Tokens and the texts that they bear. -/
def IsT (x : Tx) (t : Tok) : Prop := t.text = x ∧ t.sort = tokSort x ∧ t.num = tokNum x
/-- these tokens begin with these texts, behind which is r -/
def Begs : List Tx → List Tok → List Tok → Prop
  | [], ps, r => ps = r
  | x :: xs, ps, r => ∃ t q, ps = t :: q ∧ IsT x t ∧ Begs xs q r
theorem begs_app {a b : List Tx} : ∀ {ps r : List Tok}, Begs (a ++ b) ps r → ∃ q, Begs a ps q ∧ Begs b q r := by
  induction a with
  | nil => exact fun h => ⟨_, rfl, h⟩
  | cons x xs ih =>
    rintro ps r ⟨t, q, rfl, ht, h⟩; obtain ⟨m, h1, h2⟩ := ih h; exact ⟨m, ⟨t, q, rfl, ht, h1⟩, h2⟩
theorem begs_ne {a : List Tx} : ∀ {ps r : List Tok}, Begs a ps r → r ≠ [] → ps ≠ [] := by
  intro ps r h hr; cases a with
  | nil => rw [Begs] at h; rw [h]; exact hr
  | cons x xs => obtain ⟨t, q, rfl, _⟩ := h; simp
/- The leaves of the parser at such tokens. -/
section
variable {ps r : List Tok} {xs : List Tx} {x : Tx}
end
theorem begs_len {a : List Tx} : ∀ {ps r : List Tok}, Begs a ps r → ps.length = a.length + r.length := by
  induction a with
  | nil => intro ps r h; rw [Begs] at h; simp [h]
  | cons x xs ih =>
    rintro ps r ⟨t, q, rfl, _, h⟩; have := ih h; simp only [List.length_cons]; omega
end Go.Proofs.YtoajfnfhphoaeaaGreatDoor

namespace Go.Proofs.YtoajfnfhphoaeaaGreatDoor
/-- an expression that a text may tell, however many parts it has -/
inductive Good : Ex → Prop where
  | int (n : Int) (h0 : 0 ≤ n) (h1 : n ≤ 9223372036854775807) : Good (.mk 1 [] n [] [])
  | bool (n : Int) (h : n = 0 ∨ n = 1) : Good (.mk 2 [] n [] [])
  | con (c : Tx) (h : conM false c = true) : Good (.mk 3 c 0 [] [])
  | var (x : Tx) (h : nameM false x = true) : Good (.mk 4 x 0 [] [])
  | un (o : Tx) (h : o = notT ∨ o = minusT) (k : Ex) (hk : Good k) : Good (.mk 5 o 0 [] [k])
  | bin (o : Tx) (h : o ∈ binsL) (a b : Ex) (ha : Good a) (hb : Good b) : Good (.mk 6 o 0 [] [a, b])
  | choice (a b c : Ex) (ha : Good a) (hb : Good b) (hc : Good c) : Good (.mk 7 [] 0 [] [a, b, c])
  | fby (a b : Ex) (ha : Good a) (hb : Good b) : Good (.mk 8 [] 0 [] [a, b])
  | pre (k : Ex) (hk : Good k) : Good (.mk 9 [] 0 [] [k])
  | arrow (a b : Ex) (ha : Good a) (hb : Good b) : Good (.mk 10 [] 0 [] [a, b])
  | sample (x c : Tx) (hx : nameM false x = true) (hc : conM false c = true) (k : Ex) (hk : Good k) : Good (.mk 11 x 0 [c] [k])
  | merge (x : Tx) (cs : List Tx) (ks : List Ex) (hx : nameM false x = true) (h0 : ks ≠ []) (hc : ∀ c ∈ cs, conM false c = true) (hl : ks.length = cs.length) (hk : ∀ k, k ∈ ks → Good k) : Good (.mk 12 x 0 cs ks)
  | mtch (x : Tx) (cs : List Tx) (ks : List Ex) (hx : nameM false x = true) (h0 : ks ≠ []) (hc : ∀ c ∈ cs, conM false c = true) (hl : ks.length = cs.length) (hk : ∀ k, k ∈ ks → Good k) : Good (.mk 13 x 0 cs ks)
  | call (x : Tx) (cs : List Tx) (ks : List Ex) (hx : nameM false x = true) (h0 : ks ≠ []) (hc : ∀ c ∈ cs, nameM false c = true) (hk : ∀ k, k ∈ ks → Good k) : Good (.mk 14 x 0 cs ks)
  | every (x : Tx) (cs : List Tx) (ks : List Ex) (b : Ex) (ha : Good (.mk 14 x 0 cs ks)) (hb : Good b) : Good (.mk 15 [] 0 [] [.mk 14 x 0 cs ks, b])
def CalmT (s : Tx) : Prop := s ≠ whenT' ∧ s ≠ everyT ∧ s ≠ openT ∧ s ≠ openB
instance : DecidablePred CalmT := fun s => inferInstanceAs (Decidable (s ≠ whenT' ∧ s ≠ everyT ∧ s ≠ openT ∧ s ≠ openB))
/-- what may stand behind an expression -/
def Stop (t : Tok) : Prop := CalmT t.text ∧ strongT t.text = 0
theorem arms_zip : ∀ (cs : List Tx) (ks : List Ex), armsT cs (ks.map toksX) = (cs.zip ks).map fun y => y.1 :: arrowT :: toksX y.2
  | [], _ => by simp [armsT]
  | c :: cs, [] => by simp [armsT]
  | c :: cs, k :: ks => by rw [List.map_cons, armsT, arms_zip cs ks]; rfl
end Go.Proofs.YtoajfnfhphoaeaaGreatDoor

namespace Go.Proofs.YtoajfnfhphoaeaaGreatDoor
/-- parts one behind the other, told by what each is -/
theorem rep_ok {X : Type} {B : List Tok → Bool} {E : List Tok → Pr X} {T : X → List Tx} {Q : Tok → Prop} {t : Tok} {r : List Tok} (hB : B (t :: r) = false) (hQt : Q t) : ∀ (l : List X) (g : Nat) (acc : List X) (ps : List Tok),
    (∀ x ∈ l, ∀ ps t r, Begs (T x) ps (t :: r) → ∃ v q, ps = v :: q ∧ Q v ∧ B ps = true) →
    (∀ x ∈ l, ∀ ps t r, Q t → Begs (T x) ps (t :: r) → E ps = some (.ok x (t :: r))) → l.length < g → Begs (l.flatMap T) ps (t :: r) → repeatP B E g acc ps = some (.ok (acc ++ l) (t :: r))
  | [], g, acc, ps, _, _, hg, h => by
    obtain ⟨g, rfl⟩ : ∃ k, g = k + 1 := ⟨g - 1, by simp at hg; omega⟩
    rw [List.flatMap_nil, Begs] at h
    subst h
    rw [repeatP, if_neg (by simp), if_neg (by rw [hB]; decide), List.append_nil]
  | y :: m, g, acc, ps, hh, hE, hg, h => by
    obtain ⟨g, rfl⟩ : ∃ k, g = k + 1 := ⟨g - 1, by simp at hg; omega⟩
    rw [List.flatMap_cons] at h
    obtain ⟨q2, h1, h2⟩ := begs_app h
    have hq2 : ∃ t2 r2, q2 = t2 :: r2 ∧ Q t2 := by
      cases m with
      | nil => rw [List.flatMap_nil, Begs] at h2; exact ⟨t, r, h2, hQt⟩
      | cons z m =>
        rw [List.flatMap_cons] at h2; obtain ⟨q3, h3, h4⟩ := begs_app h2; have hq3 : ∃ t3 r3, q3 = t3 :: r3 := by
          have := begs_ne h4 (by simp); exact List.exists_cons_of_ne_nil this
        obtain ⟨t3, r3, rfl⟩ := hq3; obtain ⟨v, q, e, hv, _⟩ := hh z (by simp) q2 t3 r3 h3; exact ⟨v, q, e, hv⟩
    obtain ⟨t2, r2, rfl, hQ2⟩ := hq2; obtain ⟨v, q, e, _, hb⟩ := hh y (by simp) ps t2 r2 h1; rw [repeatP, if_neg (by rw [e]; simp), if_pos hb, hE y (by simp) ps t2 r2 hQ2 h1, bindP_ok, rep_ok hB hQt m g (acc ++ [y]) _ (fun x hx => hh x (by simp [hx])) (fun x hx => hE x (by simp [hx])) (by simp at hg; omega) h2]; simp
theorem repeated_ok {X : Type} {B : List Tok → Bool} {E : List Tok → Pr X} {T : X → List Tx} {Q : Tok → Prop} {t : Tok} {r : List Tok} (hB : B (t :: r) = false) (hQt : Q t) {l : List X} {ps : List Tok}
    (hh : ∀ x ∈ l, ∀ ps t r, Begs (T x) ps (t :: r) → ∃ v q, ps = v :: q ∧ Q v ∧ B ps = true) (hT : ∀ x ∈ l, T x ≠ [])
    (hE : ∀ x ∈ l, ∀ ps t r, Q t → Begs (T x) ps (t :: r) → E ps = some (.ok x (t :: r))) (h : Begs (l.flatMap T) ps (t :: r)) : repeatedP B E ps = some (.ok l (t :: r)) := by
  have hlen := begs_len h; have hm : l.length ≤ (l.flatMap T).length := by
    clear h hE hh hlen; induction l with
    | nil => simp
    | cons z m ih =>
      have := List.length_pos_iff.2 (hT z (by simp)); have := ih fun x hx => hT x (by simp [hx]); simp only [List.flatMap_cons, List.length_append, List.length_cons]; omega
  rw [repeatedP, rep_ok hB hQt l _ [] ps hh hE (by omega) h]; rfl
section
variable {f : Nat}
theorem eqT_ne (q : QEq) : eqT q ≠ [] := by
  unfold eqT; split <;> simp
end
theorem flat_len {X : Type} {T : X → List Tx} (hT : ∀ x, T x ≠ []) : ∀ l : List X, l.length ≤ (l.flatMap T).length
  | [] => by simp
  | x :: l => by
    have := List.length_pos_iff.2 (hT x)
    have := flat_len hT l
    simp only [List.flatMap_cons, List.length_append, List.length_cons]
    omega
end Go.Proofs.YtoajfnfhphoaeaaGreatDoor

namespace Go.Proofs.YtoajfnfhphoaeaaGreatDoor
def ErrP {X : Type} (P : List Tok → Pr X) : Prop := ∀ ts f, P ts = some (.bad f) → f.1 ≠ 0
section
variable {X Y : Type} {P : List Tok → Pr X}
theorem ErrP.ok {x : X} : ErrP fun ts => some (.ok x ts) := fun _ _ h => by cases h
theorem ErrP.bind {K : X → List Tok → Pr Y} (h : ErrP P) (hk : ∀ x, ErrP (K x)) : ErrP fun ts => bindP (P ts) K := fun ts f e => by
  rcases bindP_some e with ⟨g, e1, e2⟩ | ⟨x, r, _, e2⟩
  · cases e2; exact h ts _ e1
  · exact hk x r f e2
theorem ErrP.guard {c : List Tok → Prop} [∀ ts, Decidable (c ts)] (h : ErrP P) : ErrP fun ts => if c ts then none else P ts := fun ts f e => by
  replace e : (if c ts then none else P ts) = _ := e
  split at e
  · cases e
  · exact h ts f e
theorem ErrP.ite {c : List Tok → Prop} [∀ ts, Decidable (c ts)] {Q : List Tok → Pr X} (h : ErrP P) (hq : ErrP Q) : ErrP fun ts => if c ts then P ts else Q ts := fun ts f e => by
  replace e : (if c ts then P ts else Q ts) = _ := e
  split at e
  · exact h ts f e
  · exact hq ts f e
end
theorem want_err (s : Tx) : ErrP (wantP s) := fun ts f h => by
  cases ts with
  | nil => cases h
  | cons t r =>
    rw [wantP] at h
    split at h
    · split at h <;> cases h
    · cases h; simp [faultT]
theorem text_err (k : Int) : ErrP (textP k) := fun ts f h => by
  cases ts with
  | nil => cases h
  | cons t r =>
    rw [textP] at h
    split at h
    · split at h <;> cases h
    · cases h; simp [faultT]
section
variable {X : Type} {E : List Tok → Pr X} (hE : ErrP E)
include hE
theorem sepP_err (s : Tx) : ∀ g acc, ErrP (sepP s E g acc) := by
  intro g; induction g with
  | zero => intro acc ts f h; cases h
  | succ g ih =>
    intro acc ts f h; cases ts with
    | nil => rw [sepP] at h; cases h
    | cons t r =>
      rw [sepP] at h; split at h
      · split at h
        · cases h
        · exact (hE.bind fun x => ih (acc ++ [x])) r f h
      · cases h
theorem separated_err (s : Tx) : ErrP (separatedP s E) := fun ts f h => (hE.bind fun x => sepP_err hE s (ts.length + 1) [x]) ts f h
theorem repeatP_err (B : List Tok → Bool) : ∀ g acc, ErrP (repeatP B E g acc) := by
  intro g; induction g with
  | zero => intro acc ts f h; cases h
  | succ g ih =>
    intro acc ts f h; rw [repeatP] at h; split at h
    · cases h
    · split at h
      · exact (hE.bind fun x => ih (acc ++ [x])) ts f h
      · cases h
theorem repeated_err (B : List Tok → Bool) : ErrP (repeatedP B E) := fun ts f h => repeatP_err hE B _ _ ts f h
theorem enclosed_err (l r : Tx) : ErrP (enclosedP l E r) := (want_err l).bind fun _ => hE.bind fun _ => (want_err r).bind fun _ => .ok
end
theorem names_err : ErrP namesP := separated_err (text_err 1) commaT
theorem statics_err : ErrP staticsP := ErrP.guard (ErrP.ite (enclosed_err names_err openB shutB) .ok)
section
variable {E : PrX} (hE : ∀ o, ErrP fun ts => E ts o)
include hE
theorem named_err (o : Nat) : ErrP (namedP E o) := (text_err 1).bind fun _ => ErrP.guard (ErrP.ite .ok (statics_err.bind fun _ => (enclosed_err (separated_err (hE o) commaT) openT shutT).bind fun _ => .ok))
theorem arm_err (o : Nat) : ErrP (armP E o) := (text_err 2).bind fun _ => (want_err arrowT).bind fun _ => (hE o).bind fun _ => .ok
theorem choices_err (op : Int) (o : Nat) : ErrP (choicesP E op o) := (text_err 1).bind fun _ => (enclosed_err (separated_err (arm_err hE o) barT) openT shutT).bind fun _ => .ok
theorem atom_err (o : Nat) : ErrP (atomP E o) := fun ts f h => by
  cases ts with
  | nil => cases h
  | cons t r =>
    unfold atomP at h
    dsimp only at h
    split at h
    · split at h <;> cases h
    split at h
    · exact ((text_err 2).bind fun _ => .ok) _ f h
    split at h
    · exact named_err hE o _ f h
    split at h
    · split at h <;> cases h
    split at h
    · split at h <;> cases h
    split at h
    · split at h
      · cases h
      · exact choices_err hE 12 o _ f h
    split at h
    · split at h
      · cases h
      · exact choices_err hE 13 o _ f h
    split at h
    · exact enclosed_err (hE o) openT shutT _ f h
    · cases h; simp [faultT]
theorem choice_err (o : Nat) : ErrP (choiceP E o) := (want_err ifT).bind fun _ => (hE o).bind fun _ => (want_err thenT).bind fun _ => (hE o).bind fun _ => (want_err elseT).bind fun _ => (hE o).bind fun _ => .ok
end
theorem when_err : ∀ g e, ErrP (whenP g e) := by
  intro g; induction g with
  | zero => intro e ts f h; cases h
  | succ g ih =>
    intro e ts f h; cases ts with
    | nil => rw [whenP] at h; cases h
    | cons t r =>
      rw [whenP] at h; split at h
      · split at h
        · cases h
        · exact ((text_err 2).bind fun c => (enclosed_err (text_err 1) openT shutT).bind fun x => ih (.mk 11 x 0 [c] [e])) r f h
      · cases h
section
variable {U E : PrX} (hU : ∀ o, ErrP fun ts => U ts o) (hE : ∀ o, ErrP fun ts => E ts o)
include hU hE
theorem sampled_err (o : Nat) : ErrP (sampledP U E o) := (atom_err hE o).bind fun e ts f h => by
  split at h
  · split at h
    · cases h
    · exact ((hU o).bind fun k ts f h => when_err _ _ ts f h) _ f h
  · exact when_err _ _ ts f h
theorem prefixed_err (o : Nat) : ErrP (prefixedP U E o) := fun ts f h => by
  cases ts with
  | nil => cases h
  | cons t r =>
    unfold prefixedP at h
    dsimp only at h
    split at h
    · split at h
      · cases h
      · exact ((hU o).bind fun k => .ok) _ f h
    split at h
    · split at h
      · cases h
      · exact ((hU o).bind fun k => .ok) _ f h
    split at h
    · split at h
      · cases h
      · exact ((hU o).bind fun k => .ok) _ f h
    split at h
    · exact choice_err hE o _ f h
    · exact sampled_err hU hE o _ f h
end
theorem all_err : ∀ f : Nat, (∀ s o, ErrP fun ts => opX f s ts o) ∧ (∀ s e o, ErrP fun ts => loopX f s e ts o) ∧ ∀ o, ErrP fun ts => unX f ts o := by
  intro n; induction n with
  | zero =>
    refine ⟨fun s o ts f h => ?_, fun s e o ts f h => ?_, fun o ts f h => ?_⟩
    · replace h : opX 0 s ts o = _ := h; rw [opX] at h; cases h
    · replace h : loopX 0 s e ts o = _ := h; rw [loopX] at h; cases h
    · replace h : unX 0 ts o = _ := h; rw [unX] at h; cases h
  | succ n ih =>
    obtain ⟨i1, i2, i3⟩ := ih; refine ⟨fun s o ts f h => ?_, fun s e o ts f h => ?_, fun o ts f h => ?_⟩
    · replace h : opX (n + 1) s ts o = _ := h; rw [opX] at h; split at h
      · exact i3 o ts f h
      · exact ((i1 (s + 1) o).bind fun e => i2 s e o) ts f h
    · replace h : loopX (n + 1) s e ts o = _ := h; cases ts with
      | nil => rw [loopX] at h; cases h
      | cons t r =>
        rw [loopX] at h; split at h
        · split at h
          · cases h
          · split at h
            · exact ((i1 s o).bind fun e => .ok) r f h
            · split at h
              · exact ((i1 (s + 1) o).bind fun e => .ok) r f h
              · exact ((i1 (s + 1) o).bind fun x => i2 s _ o) r f h
        · cases h
    · replace h : unX (n + 1) ts o = _ := h; cases ts with
      | nil => rw [unX] at h; cases h
      | cons t r =>
        rw [unX] at h; split at h
        · cases h; simp [faultT]
        · exact prefixed_err i3 (i1 1) (o + 1) _ f h
theorem enum_err : ErrP enumP := (want_err typeW).bind fun _ => (text_err 1).bind fun _ => (want_err eqSign).bind fun _ => (separated_err (text_err 2) barT).bind fun _ => (want_err semiT).bind fun _ => .ok
section
variable {E : List Tok → Pr Ex} (hE : ErrP E)
include hE
theorem equation_err : ErrP (equationP E) := (ErrP.ite (enclosed_err names_err openT shutT) ((text_err 1).bind fun _ => .ok) : ErrP definedP).bind fun _ => (want_err eqSign).bind fun _ => hE.bind fun _ => (want_err semiT).bind fun _ => .ok
theorem way_err : ErrP (wayP E) := (want_err untilT).bind fun _ => hE.bind fun _ => (want_err thenT).bind fun _ => (text_err 2).bind fun _ => (want_err semiT).bind fun _ => .ok
theorem state_err : ErrP (stateP E) := (want_err stateW).bind fun _ => (text_err 2).bind fun _ => (want_err colonT).bind fun _ => (repeated_err (equation_err hE) _).bind fun _ => (repeated_err (way_err hE) _).bind fun _ => .ok
theorem automaton_err : ErrP (automatonP E) := (want_err autoT).bind fun _ => (state_err hE).bind fun _ => (repeated_err (state_err hE) _).bind fun _ => (want_err endW).bind fun _ => (want_err semiT).bind fun _ => .ok
theorem item_err : ErrP (itemP E) := ErrP.ite ((automaton_err hE).bind fun _ => .ok) ((equation_err hE).bind fun _ => .ok)
theorem node_err : ErrP (nodeP E) := (want_err nodeW).bind fun _ => (text_err 1).bind fun _ => statics_err.bind fun _ => (enclosed_err names_err openT shutT).bind fun _ => (want_err eqSign).bind fun _ => (enclosed_err names_err openT shutT).bind fun _ => (want_err whereT).bind fun _ => (repeated_err (item_err hE) _).bind fun _ => (want_err endW).bind fun _ => .ok
theorem programF_err : ∀ g es ns, ErrP (programF E g es ns) := by
  intro g; induction g with
  | zero => intro es ns ts f h; cases h
  | succ g ih =>
    intro es ns ts f h; rw [programF] at h; split at h
    · cases h
    · split at h
      · exact (enum_err.bind fun e => ih (es ++ [e]) ns) ts f h
      · split at h
        · exact ((node_err hE).bind fun n => ih es (ns ++ [n])) ts f h
        · cases h
end
theorem wholeP_err {X : Type} {E : List Tok → Pr X} (hE : ErrP E) : ErrP (wholeP E) := hE.bind fun x ts f h => by
  cases ts with
  | nil => cases h
  | cons t r =>
    replace h : (if t.sort = 6 then some (Out.ok x (t :: r)) else some (.bad (faultT 3 t))) = some (.bad f) := h
    split at h
    · cases h
    · cases h; simp [faultT]
theorem progO_err {ts : List Tok} {f : Flt} (he : Ended ts) (h : progO ts = .bad f) : f.1 ≠ 0 := by
  obtain ⟨n, hn⟩ := progO_some he; rw [h] at hn; exact wholeP_err (fun ts f h => programF_err ((all_err n).1 1 0) _ _ _ ts f h) ts f hn
end Go.Proofs.YtoajfnfhphoaeaaGreatDoor
