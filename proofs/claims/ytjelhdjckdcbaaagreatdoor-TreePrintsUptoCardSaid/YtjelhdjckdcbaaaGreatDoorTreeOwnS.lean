/-
  A slice of strings of the call's own: appends; the reference's List and Pad.
-/
import Derived.Test.YtjelhdjckdcbaaaGreatDoorTreeRText
import Derived.Test.YtjelhdjckdcbaaaGreatDoorTreeExprs
import Derived.Test.YtjelhdjckdcbaaaGreatDoorTreeExpr
namespace Go.Proofs.YtjelhdjckdcbaaaGreatDoor
open Go.RowKit

theorem ret_str' {a b : Tx} (h : a = b) : Ending.returned (.string (str a)) = .returned (.string (str b)) := by rw [h]
theorem ret_strB {a b : ByteArray} (h : a = b) : Ending.returned (.string a) = .returned (.string b) := by rw [h]
theorem lit_str (l : List UInt8) : (⟨l.toArray⟩ : ByteArray) = str l := rfl
theorem str_append' (a b : List UInt8) : str a ++ str b = str (a ++ b) := by
  apply ByteArray.ext
  rw [ByteArray.data_append]
  simp [str]
def txt (x : Ex) : Tx := spellL (toksX x)
theorem txt_len {x : Ex} (h : i64x x) : (txt x).length + 2 ≤ 6 * wX x := by
  have h1 := toks_wN x h
  have h2 := putL_wN (toksX x) false
  rw [putL_false] at h2
  unfold txt
  omega
def StrPost (s : Tx) (w : World) (e : Ending) (w' : World) : Prop := e = .returned (.string (str s)) ∧ Below w.heap.size w w'
def StrSame (s : Tx) (w : World) (e : Ending) (w' : World) : Prop := e = .returned (.string (str s)) ∧ w = w'
theorem str_info : (Tryz.prog.info? 9).map (fun i => (i.zero, i.size, i.bytes)) = some (some (.string ⟨#[]⟩), 1, 16) := by kernel_rfl
theorem row_under {w w' : World} {B : Nat} {e : TypeId} {size n : Nat} {v : Value} {xs : List Value} (h : w.ownsRow B e size v n xs) (hb : Below w.heap.size w w') : w'.ownsRow B e size v n xs := by
  obtain ⟨h1, h2⟩ := h
  refine ⟨h1, ?_⟩
  rcases h2 with h2 | ⟨g, cap, cur, rfl, hg, hh, hr⟩
  · exact .inl h2
  · exact .inr ⟨g, cap, cur, rfl, hg, (hb.block g (lt_of_heap hh)).trans hh, hr⟩
theorem row_mono {w : World} {B B' : Nat} {e : TypeId} {size n : Nat} {v : Value} {xs : List Value} (h : w.ownsRow B e size v n xs) (hB : B' ≤ B) : w.ownsRow B' e size v n xs := by
  obtain ⟨h1, h2⟩ := h
  refine ⟨h1, ?_⟩
  rcases h2 with h2 | ⟨g, cap, cur, rfl, hg, hr⟩
  · exact .inl h2
  · exact .inr ⟨g, cap, cur, rfl, by omega, hr⟩
/-- a slice of the call's own that holds the strings l -/
def OwnS (B : Nat) (w : World) (v : Value) (l : List Tx) : Prop := w.ownsRow B 9 1 v l.length (l.map fun x => .string (str x)) ∧ ∀ x ∈ l, x.length ≤ maxLen
theorem OwnS.nil (B : Nat) (w : World) : OwnS B w (.slice none 0 0) [] := ⟨⟨rfl, .inl ⟨rfl, rfl⟩⟩, by simp⟩
theorem OwnS.under {B : Nat} {w w' : World} {v : Value} {l : List Tx} (h : OwnS B w v l) (hb : Below w.heap.size w w') : OwnS B w' v l := ⟨row_under h.1 hb, h.2⟩
theorem OwnS.alloc {B : Nat} {w : World} {v : Value} {l : List Tx} (h : OwnS B w v l) (o : Obj) : OwnS B (w.alloc o) v l := ⟨h.1.alloc o, h.2⟩
theorem OwnS.drew {B : Nat} {w : World} {v : Value} {l : List Tx} (h : OwnS B w v l) : OwnS B w.drew v l := h
theorem OwnS.mono {B B' : Nat} {w : World} {v : Value} {l : List Tx} (h : OwnS B w v l) (hB : B' ≤ B) : OwnS B' w v l := ⟨row_mono h.1 hB, h.2⟩
/-- a block of another type than the row's is kept -/
theorem other_keptE {w w' : World} {B n m : Nat} {E : TypeId} {v : Value} {xs : List Value} {g : Nat} {cs : Array Value} {T0 : TypeId} (ho : w.ownsRow B E m v n xs) (hg : w.grownBy w' v.ownBlock) (h : w.heap[g]? = some (.cells cs T0 (0, 0))) (hne : T0 ≠ E) : w'.heap[g]? = some (.cells cs T0 (0, 0)) := by
  refine (hg.block g (lt_of_heap h) fun e => ?_).trans h
  rcases ho.2 with ⟨rfl, _⟩ | ⟨g', cap, cur, rfl, _, hh, _⟩
  · simp [Value.ownBlock] at e
  · have : g = g' := by simpa [Value.ownBlock] using e
    subst this
    rw [h] at hh
    injection hh with hh
    injection hh with _ ht
    exact hne ht
/-- what an append leaves -/
def AppS (B : Nat) (l : List Tx) (W : World) (v' : Value) (w' : World) : Prop :=
  OwnS B w' v' l ∧ Below B W w' ∧ ∀ (g : Nat) (cs : Array Value) (T0 : TypeId), T0 ≠ 9 → W.heap[g]? = some (.cells cs T0 (0, 0)) → w'.heap[g]? = some (.cells cs T0 (0, 0))
theorem append_str {ops : Array Oper} {rest : List Oper} {o : Oper} {a : Act} {Q : Exit → Act → World → Prop} {W : World} {B : Nat} {v : Value} {l : List Tx} {x : Tx} {N : Nat} (hgd : o.guard = none) (s y : Operand)
    (ho : o.op = .call { callee := .builtin .append, args := #[s, y], argTypes := #[22, 22] }) (hs : a.eval s = v) (hy : a.eval y = .slice (some ⟨N, 0, none⟩) 1 1)
    (hN : W.heap[N]? = some (.cells #[.string (str x)] 9 (0, 0))) (hO : OwnS B W v l) (hx : x.length ≤ maxLen) (hl : l.length ≤ 2097152) (hB : B ≤ W.heap.size)
    (h : ∀ v' w', AppS B (l ++ [x]) W v' w' → wpList Tryz.prog ops Q rest (a.put o.dst v') w') : wpList Tryz.prog ops Q (o :: rest) a W := by
  obtain ⟨i0, hi, hz0, hz1, hz2⟩ := info_parts str_info
  obtain ⟨hown, hle⟩ := hO
  refine wpList_append_own W hgd s y 22 ho B 9 i0 (.string ⟨#[]⟩) 1 16 Tryz.underlying22 hi hz0 hz1 hz2 rfl (by decide) v l.length _ hs hown ⟨N, 0, none⟩ 1 1 [.string (str x)] hy (by simp) (fun j u hj => ?_) (fun u hu => ?_) (by unfold maxLen; omega) (by omega) hB fun v' w' h1 h2 _ => h v' w' ⟨⟨by simpa using h1, ?_⟩, ?_, fun g cs T0 hne hg => other_keptE hown h2 hg hne⟩
  · have hadd : (⟨N, 0, none⟩ : Addr).add j = ⟨N, j, none⟩ := by unfold Addr.add; split <;> simp_all
    rw [hadd, cell_of_row _ _ _ _ _ _ hN]
    simpa using hj
  · simp at hu; subst hu; rfl
  · intro z hz
    rcases List.mem_append.1 hz with hz | hz
    · exact hle z hz
    · simp at hz; subst hz; exact hx
  · exact (Below.refl B W).grown h2 hB (fun j hj => (hown.lt j hj).1)
theorem step_str {ops : Array Oper} {o : Oper} {a : Act} {K : Act → World → Prop} {Q : Exit → Act → World → Prop} {E : Prop} {W : World} {B : Nat} {v : Value} {l : List Tx} {x : Tx} {N : Nat} (hgd : o.guard = none) (s y : Operand)
    (ho : o.op = .call { callee := .builtin .append, args := #[s, y], argTypes := #[22, 22] }) (hs : a.eval s = v) (hy : a.eval y = .slice (some ⟨N, 0, none⟩) 1 1)
    (hN : W.heap[N]? = some (.cells #[.string (str x)] 9 (0, 0))) (hO : OwnS B W v l) (hx : x.length ≤ maxLen) (hl : l.length ≤ 2097152) (hB : B ≤ W.heap.size)
    (h : ∀ v' w', AppS B (l ++ [x]) W v' w' → K (a.put o.dst v') w') : if Region.wanted o (yielded ops a.tmps) = true then Oper.wp Tryz.prog o a W K Q else E := by
  have hw : Region.wanted o (yielded ops a.tmps) = true := by simp [Region.wanted, hgd]
  rw [if_pos hw]
  obtain ⟨i0, hi, hz0, hz1, hz2⟩ := info_parts str_info
  obtain ⟨hown, hle⟩ := hO
  refine wp_append_own W s y 22 ho B 9 i0 (.string ⟨#[]⟩) 1 16 Tryz.underlying22 hi hz0 hz1 hz2 rfl (by decide) v l.length _ hs hown ⟨N, 0, none⟩ 1 1 [.string (str x)] hy (by simp) (fun j u hj => ?_) (fun u hu => ?_) (by unfold maxLen; omega) (by omega) hB fun v' w' h1 h2 _ => h v' w' ⟨⟨by simpa using h1, ?_⟩, ?_, fun g cs T0 hne hg => other_keptE hown h2 hg hne⟩
  · have hadd : (⟨N, 0, none⟩ : Addr).add j = ⟨N, j, none⟩ := by unfold Addr.add; split <;> simp_all
    rw [hadd, cell_of_row _ _ _ _ _ _ hN]
    simpa using hj
  · simp at hu; subst hu; rfl
  · intro z hz
    rcases List.mem_append.1 hz with hz | hz
    · exact hle z hz
    · simp at hz; subst hz; exact hx
  · exact (Below.refl B W).grown h2 hB (fun j hj => (hown.lt j hj).1)
/-- as a slice whose strings are read -/
theorem OwnS.strs {B : Nat} {w : World} {v : Value} {l : List Tx} (h : OwnS B w v l) : StrsAt w v l := by
  obtain ⟨hown, hle⟩ := h
  rcases hown.2 with ⟨rfl, h0⟩ | ⟨g, cap, cur, rfl, _, hh, hc, hm, _⟩
  · have : l = [] := List.eq_nil_of_length_eq_zero h0
    subst this
    exact ⟨none, 0, rfl, Nat.le_refl _, by unfold maxLen; omega, fun i x h => by simp at h⟩
  · refine ⟨_, cap, rfl, hc, hm, fun i x hx => ⟨[.string (str x)], ⟨_, rfl, fun j u hu => ?_⟩, rfl, hle x (List.mem_of_getElem? hx)⟩⟩
    have hj : j = 0 := by
      have := (List.getElem?_eq_some_iff.1 hu).1
      simp at this; exact this
    subst hj
    simp only [List.getElem?_cons_zero, Option.some.injEq] at hu
    subst hu
    rw [add_add]
    refine hown.cells (g := g) rfl _ _ ?_
    simp [hx]
theorem listL_more (sg : Tx) (l m : List Tx) : ∃ r, listL sg (l ++ m) = listL sg l ++ r := by
  cases l with
  | nil => exact ⟨listL sg m, by simp [listL]⟩
  | cons y r => exact ⟨_, by simp only [List.cons_append, listL, List.flatMap_append, ← List.append_assoc]; rfl⟩
theorem listL_take (sg : Tx) (l : List Tx) (k : Nat) : (listL sg (l.take k)).length ≤ (listL sg l).length := by
  obtain ⟨r, hr⟩ := listL_more sg (l.take k) (l.drop k)
  rw [List.take_append_drop] at hr
  rw [hr]; simp
def listK (sg : Tx) (l : List Tx) (k : Nat) : Tx := listL sg (l.take k)
theorem listK_zero (sg : Tx) (l : List Tx) : listK sg l 0 = [] := by simp [listK, listL]
set_option maxHeartbeats 1000000 in
theorem rList_any (sg : Tx) {va : Value} {l : List Tx} {w : World} (ha : StrsAt w va l) (hg : sg.length ≤ 10) (hs : (listL sg l).length ≤ 1073741824) :
    Calls Tryz.prog 25 #[va, .string (str sg)] w (StrSame (listL sg l) w) := by
  obtain ⟨A, c, rfl, hlc, hmc, he⟩ := ha
  have hll : l.length ≤ 9223372036854775807 := by unfold maxLen at hmc; omega
  have hgs : (str sg).size ≤ 10 := by rw [str_size]; exact hg
  have HE := Lib.hid he
  have HG := Lib.hid hg
  have HS := Lib.hid hs
  clear he hlc hmc hg hs
  go_enter Tryz.func25, Tryz.ntmps25
  go_wp2_with fail
  go_loop [5, 6] (fun s v => ∃ k : Nat, k ≤ l.length ∧ v = .int .i64 k ∧ s = .string (str (listK sg l k))) (fun _ v => l.length - (intOf v).toNat)
  case atStart => exact ⟨0, Nat.zero_le _, rfl, rfl⟩
  case round =>
    obtain ⟨k, hk, rfl, rfl⟩ := hrel
    by_cases hlt : k < l.length
    · obtain ⟨x, hx⟩ : ∃ x, l[k]? = some x := ⟨_, List.getElem?_eq_getElem hlt⟩
      obtain ⟨L, hEL, hRL⟩ := HE.out k x hx
      obtain ⟨rfl, _⟩ := hRL
      obtain ⟨a, rfl, _, _, c0⟩ := elem1 hEL
      have hn : listK sg l (k + 1) = listK sg l k ++ ((if l.take k = [] then [] else 32 :: (sg ++ [32])) ++ x) := by
        have hn := listL_snoc sg (l.take k) x
        rw [← take_snoc hx] at hn
        exact hn
      have hle : (listK sg l (k + 1)).length ≤ 1073741824 := Nat.le_trans (listL_take sg l (k + 1)) HS.out
      rw [hn] at hle
      have HN := Lib.hid hn
      clear hx hEL hn
      by_cases h0 : k = 0
      · subst h0
        have hb : (str (listK sg l 0)).size + (str x).size ≤ 9223372036854775807 := by
          rw [str_size, str_size]; rw [List.length_append] at hle; simp at hle; omega
        simp only [Nat.zero_mul] at c0
        rw [add_zero] at c0
        go_wp2_with fail
        go_round
        case rel => exact ⟨1, by omega, rfl, by rw [HN.out, str_append']; simp⟩
        case measure => simp [intOf]; omega
      · have hpos : 0 < k := by omega
        have hT : l.take k ≠ [] := by
          intro h
          rw [List.take_eq_nil_iff] at h
          rcases h with h | h
          · omega
          · rw [h] at hlt; simp at hlt
        have HT := Lib.hid hT
        rw [if_neg hT] at hle
        simp only [List.length_append, List.length_cons, List.length_nil] at hle
        simp only [Nat.mul_one] at c0
        have hb : (str (listK sg l k)).size + (1 + (str sg).size + 1) + (str x).size ≤ 9223372036854775807 := by rw [str_size, str_size, str_size]; omega
        clear h0 hT hle
        go_wp2_with fail
        go_round
        case rel => exact ⟨k + 1, by omega, by go_num, by rw [HN.out, if_neg HT.out]; simp only [lit_str, str_append']; simp⟩
        case measure => simp [intOf]; omega
    · have hke : k = l.length := by omega
      have HKE := Lib.hid hke
      clear hke
      go_wp2_with fail
      go_ret
      exact ⟨ret_str' (by rw [HKE.out, listK, List.take_length]), rfl⟩
theorem rPad_any (sg : Tx) {va : Value} {l : List Tx} {w : World} (ha : StrsAt w va l) (hg : sg.length ≤ 10) (hs : (padL sg l).length ≤ 1073741824) :
    Calls Tryz.prog 24 #[va, .string (str sg)] w (StrSame (padL sg l) w) := by
  by_cases h0 : l = []
  · subst h0
    obtain ⟨A, c, rfl, _⟩ := ha
    simp only [List.length_nil]
    go_enter Tryz.func24, Tryz.ntmps24
    go_wp2_with fail
    go_ret
    exact ⟨rfl, rfl⟩
  · have HP := Lib.hid (show padL sg l = 32 :: listL sg l by unfold padL; rw [if_neg h0])
    rw [HP.out] at hs
    simp only [List.length_cons] at hs
    have HL := Lib.hid (rList_any sg ha hg (by omega))
    have hz : (str (listL sg l)).size ≤ 1073741824 := by rw [str_size]; omega
    obtain ⟨A, c, rfl, _⟩ := ha
    have hd : ((l.length : Int) == 0) = false := by cases l with
      | nil => exact absurd rfl h0
      | cons a b => simp; omega
    clear h0 hs
    go_enter Tryz.func24, Tryz.ntmps24
    go_wp2_with (go_at_call 25; (with_reducible refine HL.out.mono ?_); rintro e w' ⟨rfl, rfl⟩)
    go_ret
    exact ⟨ret_str' (by rw [HP.out]; rfl), rfl⟩
theorem StrsAt.drewN {w : World} {v : Value} {l : List Tx} (h : StrsAt w v l) (n : Nat) : StrsAt (w.drewN n) v l := h.under (below_drewN (Below.refl _ _) n)
theorem rPad44 {va : Value} {l : List Tx} {w : World} (ha : StrsAt w va l) (hs : (padL [44] l).length ≤ 1073741824) (n : Nat) : Calls Tryz.prog 24 #[va, .string ⟨#[44]⟩] (w.drewN n) fun e w' => e = .returned (.string (str (padL [44] l))) ∧ w' = w.drewN n :=
  (rPad_any [44] (ha.drewN n) (by decide) hs).mono fun _ _ h => ⟨h.1, h.2.symm⟩
theorem rPad124 {va : Value} {l : List Tx} {w : World} (ha : StrsAt w va l) (hs : (padL [124] l).length ≤ 1073741824) (n : Nat) : Calls Tryz.prog 24 #[va, .string ⟨#[124]⟩] (w.drewN n) fun e w' => e = .returned (.string (str (padL [124] l))) ∧ w' = w.drewN n :=
  (rPad_any [124] (ha.drewN n) (by decide) hs).mono fun _ _ h => ⟨h.1, h.2.symm⟩
theorem rPad44s {va : Value} {l : List Tx} {w : World} (ha : StrsAt w va l) (hs : (padL [44] l).length ≤ 1073741824) : Calls Tryz.prog 24 #[va, .string ⟨#[44]⟩] w (StrSame (padL [44] l) w) := rPad_any [44] ha (by decide) hs
theorem rList44s {va : Value} {l : List Tx} {w : World} (ha : StrsAt w va l) (hs : (listL [44] l).length ≤ 1073741824) : Calls Tryz.prog 25 #[va, .string ⟨#[44]⟩] w (StrSame (listL [44] l) w) := rList_any [44] ha (by decide) hs
theorem rList124s {va : Value} {l : List Tx} {w : World} (ha : StrsAt w va l) (hs : (listL [124] l).length ≤ 1073741824) : Calls Tryz.prog 25 #[va, .string ⟨#[124]⟩] w (StrSame (listL [124] l) w) := rList_any [124] ha (by decide) hs
end Go.Proofs.YtjelhdjckdcbaaaGreatDoor
