/-
  ScopeVars: what a node without a fault defines: the mathematics, and the walk.
-/
import Derived.Test.YtbpbnebcbjacdaaGreatScopeFirst
namespace Go.Proofs.YtbpbnebcbjacdaaGreat
open Go.RowKit

theorem itemsF_vars (l : List QItem) : ∀ (b : Int) (s : SProg) (vars : List Tx) (s' : SProg) (vars' : List Tx), vars.Nodup → itemsF b s vars l = .inl (s', vars') → vars' = vars ++ l.flatMap definedQ ∧ vars'.Nodup := by
  induction l with
  | nil => intro b s vars s' vars' hv h; cases h; exact ⟨by simp, hv⟩
  | cons i r ih =>
    intro b s vars s' vars' hv h
    rw [itemsF_cons] at h
    split at h
    · rename_i hok
      rw [itemOk, Bool.and_eq_true] at hok
      have hn := (recOk_iff _ _ hv).1 hok.1
      obtain ⟨h1, h2⟩ := ih _ _ _ _ _ hn h
      exact ⟨by rw [h1, List.flatMap_cons, List.append_assoc], h2⟩
    · cases h
theorem usesF_none (s : SNode) (l : List QItem) : ∀ b, usesF s b l = none → ∀ i ∈ l, usesItem s i = true := by
  induction l with
  | nil => intro b _ i hi; cases hi
  | cons x r ih =>
    intro b h i hi
    rw [usesF_cons] at h
    split at h
    · rename_i hx
      rcases List.mem_cons.1 hi with rfl | hi
      · exact hx
      · exact ih _ h i hi
    · cases h
theorem step_parts {s s' : SProg} {n : QNode} (h : nodeStep s n = .inl s') : headOk s n = true ∧ ∃ s1 vars, itemsF 0 s n.ins n.items = .inl (s1, vars) ∧ (n.outs.all (n.items.flatMap definedQ).contains) = true ∧ usesF ⟨s1, n.funs, vars⟩ 0 n.items = none ∧ s' = { s1 with nodes := s1.nodes ++ [(n.name, n)] } := by
  cases hh : headOk s n
  · rw [step_head hh] at h; cases h
  · refine ⟨rfl, ?_⟩
    cases hi : itemsF 0 s n.ins n.items with
    | inr b => rw [step_items hh hi] at h; cases h
    | inl x =>
      obtain ⟨s1, vars⟩ := x
      cases ho : n.outs.all (n.items.flatMap definedQ).contains
      · rw [step_outs hh hi ho] at h; cases h
      · cases hu : usesF ⟨s1, n.funs, vars⟩ 0 n.items with
        | some b => rw [step_uses hh hi ho hu] at h; cases h
        | none =>
          rw [step_ok hh hi ho hu] at h
          cases h
          exact ⟨s1, vars, rfl, rfl, hu, rfl⟩
theorem head_ins {s : SProg} {n : QNode} (h : headOk s n = true) : n.ins.Nodup := by
  unfold headOk at h
  simp only [Bool.and_eq_true] at h
  have h1 := rec_right h.2.1
  rw [recOk_iff _ _ List.nodup_nil] at h1
  simpa using h1
/-- what is true of a node without a fault -/
structure NodeWell (n : QNode) : Prop where
  nodup : (varsQ n).Nodup
  outs : ∀ o ∈ n.outs, o ∈ varsQ n ∧ o ∉ n.ins
  var : ∀ i ∈ n.items, i.states = [] → ∀ op nm m cs ks, i.eq.e = .mk op nm m cs ks → op = 4 → nm ∈ varsQ n
theorem node_well {s s' : SProg} {n : QNode} (h : nodeStep s n = .inl s') : NodeWell n := by
  obtain ⟨hh, s1, vars, hi, ho, hu, _⟩ := step_parts h
  obtain ⟨hv, hn⟩ := itemsF_vars _ _ _ _ _ _ (head_ins hh) hi
  have hV : vars = varsQ n := hv
  subst hV
  refine ⟨hn, fun o hoo => ?_, fun i hit hst op nm m cs ks he hop => ?_⟩
  · have h1 := List.all_eq_true.1 ho o hoo
    rw [List.contains_iff_mem] at h1
    refine ⟨List.mem_append_right _ h1, fun h2 => ?_⟩
    exact (List.nodup_append.1 hn).2.2 o h2 o h1 rfl
  · have h1 := usesF_none _ _ _ hu i hit
    rw [usesItem, if_pos hst, he, uses_mk, Bool.and_eq_true] at h1
    have h2 := h1.1
    rw [usesName, if_pos hop] at h2
    exact List.contains_iff_mem.1 h2
theorem nodesF_well (l : List QNode) : ∀ (k : Int) (s : SProg), nodesF k s l = (0, 0, 0) → ∀ n ∈ l, NodeWell n := by
  induction l with
  | nil => intro k s _ n hn; cases hn
  | cons x r ih =>
    intro k s h n hn
    cases hs : nodeStep s x with
    | inr b => rw [nodesF_no hs] at h; cases h
    | inl s' =>
      rw [nodesF_yes hs] at h
      rcases List.mem_cons.1 hn with rfl | hn
      · exact node_well hs
      · exact ih _ _ h n hn
theorem check_well {made : Bool} {p : QProg} (h : (checkQ made p).1 = 0) : ∀ n ∈ p.nodes, NodeWell n := by
  obtain ⟨_, _, s, _, hn⟩ := check_zero h
  exact nodesF_well _ _ _ hn
theorem defined_few (i : QItem) : (definedQ i).length ≤ wItem i := by
  obtain ⟨⟨nm, e⟩, sts⟩ := i
  cases sts with
  | nil =>
    have := len_wN nm
    show nm.length ≤ _
    simp only [wItem, wEq, wL]
    omega
  | cons z r =>
    have h1 := len_flat (f := QEq.names) (g := wEq) (l := z.eqs) (fun q _ => by have := len_wN q.names; simp only [wEq]; omega)
    show (z.eqs.flatMap QEq.names).length ≤ _
    simp only [wItem, wL, wState]
    omega
theorem vars_few {p : QProg} (hp : wProg p ≤ 1048576) {n : QNode} (hn : n ∈ p.nodes) : (varsQ n).length ≤ 2097152 := by
  have h1 := wL_mem (f := wNode) hn
  have h2 := len_flat (f := definedQ) (g := wItem) (l := n.items) (fun i _ => defined_few i)
  have h3 := len_wN n.ins
  unfold wProg at hp
  unfold varsQ
  rw [List.length_append]
  simp only [wNode] at h1
  omega
theorem nodup_take {l : List Tx} (h : l.Nodup) {i : Nat} {x : Tx} (hx : l[i]? = some x) : (l.take i).contains x = false := by
  rw [← Bool.not_eq_true, List.contains_iff_mem]
  intro hm
  obtain ⟨j, hj⟩ := List.getElem?_of_mem hm
  rw [List.getElem?_take] at hj
  split at hj
  · rename_i hji
    have h1 := (List.getElem?_inj (List.getElem?_eq_some_iff.1 hj).1 h).1 (hj.trans hx.symm)
    omega
  · cases hj
set_option maxHeartbeats 16000000 in
set_option maxRecDepth 100000 in
theorem vars_walk {w : World} {p : QProg} {A1 A2 : Option Addr} {n1 k1 n2 k2 : Nat} (hL : ProgAt w [.slice A1 n1 k1, .slice A2 n2 k2] p) (hq : ∀ x ∈ p.nodes, (nodeX x).length ≤ 1048576) (hv : ∀ n ∈ p.nodes, (varsQ n).length ≤ 2097152) :
    Calls Tryz.prog 7 #[.agg #[.slice A1 n1 k1, .slice A2 n2 k2]] w (Lived w) := by
  have HVL := Lib.hid hv
  have HCK := Lib.hid (check_any true hL hq)
  have hff := field_fault
  obtain ⟨ev, nv, e0, he, hnn⟩ := hL
  injection e0 with ea e0
  injection e0 with eb _
  subst ea eb
  obtain ⟨A', c', eq2, hcc, hmc, hne⟩ := hnn
  injection eq2 with e1 e2 e3
  subst e1 e2 e3
  have hal := Lib.hid ((Below.refl w.heap.size w).alloc (Nat.le_refl _) (.cells #[.slice A1 n1 k1, .slice A2 p.nodes.length k2] 25))
  have BP := Lib.hid (heap_alloc_new w (.cells #[.slice A1 n1 k1, .slice A2 p.nodes.length k2] 25))
  have hcap : p.nodes.length ≤ k2 := hcc
  have hnl : p.nodes.length ≤ 9223372036854775807 := by unfold maxLen at hmc; omega
  have HNE := Lib.hid hne
  clear hq he hcc hmc hne hv
  by_cases hc : (checkQ true p).1 = 0
  · have HWELL := Lib.hid (check_well hc)
    have HZ := Lib.hid (check_zero hc).1
    clear hc
    go_enter Tryz.func7, Tryz.ntmps7
    go_wp2_with (first
      | (go_at_call 9
         (with_reducible refine (lives_any _).mono ?_)
         rintro e w7 ⟨rfl, hb7⟩
         obtain ⟨V1, rfl⟩ : ∃ W, W = w7 := ⟨_, rfl⟩
         have HB1 := Lib.hid (hal.out.trans (hb7.mono hal.out.size))
         have BP1 := Lib.hid (box_next hb7 BP.out)
         obtain ⟨_, _⟩ := row2 BP1.out
         clear hb7)
      | (go_at_call 10
         (with_reducible refine (HCK.out _ HB1.out).mono ?_)
         rintro e w8 ⟨he, hb8⟩
         rw [HZ.out] at he
         subst he
         obtain ⟨V2, rfl⟩ : ∃ W, W = w8 := ⟨_, rfl⟩
         have HB2 := Lib.hid (HB1.out.trans (hb8.mono HB1.out.size))
         have BP2 := Lib.hid (box_next hb8 BP1.out)
         clear hb8))
    have hs2 := HB2.out.size
    go_loopg [3] p.nodes.length (fun g v wr => ∃ k : Nat, k + g = p.nodes.length ∧ v = .int .i64 k ∧ Below V2.heap.size V2 wr)
    case atStart => exact ⟨0, by omega, rfl, Below.refl _ _⟩
    case round =>
      obtain ⟨wq, rfl⟩ : ∃ W, W = wr := ⟨_, rfl⟩
      obtain ⟨k, hkg, rfl, hbw⟩ := hrel
      have HK := Lib.hid hkg
      have HW := Lib.hid hbw
      have HBQ := Lib.hid (HB2.out.trans (hbw.mono hs2))
      have BPQ := Lib.hid (box_next hbw BP2.out)
      obtain ⟨p0, p1⟩ := row2 BPQ.out
      have hkl : k ≤ p.nodes.length := by omega
      clear hkg hbw
      by_cases hlt : k < p.nodes.length
      · obtain ⟨n, hn⟩ : ∃ n, p.nodes[k]? = some n := ⟨_, List.getElem?_eq_getElem hlt⟩
        have HWE := Lib.hid (HWELL.out n (List.mem_of_getElem? hn))
        have hlen := HVL.out n (List.mem_of_getElem? hn)
        obtain ⟨Ln, hEn, hNn⟩ := HNE.out k n hn
        have HNA := Lib.hid hNn
        obtain ⟨fv, iv, ov, xv, rfl, _, hfu, hin, hou, hit⟩ := hNn
        have HIN := Lib.hid hin
        have HOU := Lib.hid hou
        have HIT := Lib.hid hit
        obtain ⟨fA, fn, fk, rfl⟩ := SliceAt.shape hfu
        obtain ⟨iA, ik, rfl, _, _, _⟩ := hin
        obtain ⟨oA, ok, rfl, hoc, hom, hoe⟩ := hou
        obtain ⟨xA, xk, rfl, hxc, hxm, hxe⟩ := hit
        have hocap : n.outs.length ≤ ok := hoc
        have hol : n.outs.length ≤ 9223372036854775807 := by unfold maxLen at hom; omega
        have hxcap : n.items.length ≤ xk := hxc
        have hxl : n.items.length ≤ 9223372036854775807 := by unfold maxLen at hxm; omega
        have HOE := Lib.hid hoe
        have HXE := Lib.hid hxe
        obtain ⟨a, ea, ha, haa, d0, d1, d2, d3, d4⟩ := elem5 (hEn.under HBQ.out)
        subst ea
        have HA := Lib.hid ((Below.refl wq.heap.size wq).alloc (Nat.le_refl _) (.cells #[.string (str n.name), .slice fA fn fk, .slice iA n.ins.length ik, .slice oA n.outs.length ok, .slice xA n.items.length xk] 41))
        have BN := Lib.hid (heap_alloc_new wq (.cells #[.string (str n.name), .slice fA fn fk, .slice iA n.ins.length ik, .slice oA n.outs.length ok, .slice xA n.items.length xk] 41))
        have HBZ := Lib.hid (HBQ.out.trans (HA.out.mono HBQ.out.size))
        have HVA := Lib.hid (vars_any HNA.out hlen _ HBZ.out)
        have HND := Lib.hid HWE.out.nodup
        have HOW := Lib.hid HWE.out.outs
        have HVW := Lib.hid HWE.out.var
        generalize hvq : varsQ n = vq at *
        clear hn hEn hfu hoc hom hoe hxc hxm hxe hvq
        go_wp2_with (go_at_call 17
                     (with_reducible refine HVA.out.mono ?_)
                     rintro e w9 ⟨v9, rfl, ho9, hb9⟩
                     obtain ⟨lA, ln, lk, rfl, hln⟩ := ho9.shape
                     subst hln
                     obtain ⟨W1, rfl⟩ : ∃ W, W = w9 := ⟨_, rfl⟩
                     have HLS := Lib.hid ho9.strs
                     have HB9 := Lib.hid (HBZ.out.trans (hb9.mono HBZ.out.size))
                     have HW9 := Lib.hid ((HW.out.trans (HA.out.mono HW.out.size)).trans (hb9.mono (Nat.le_trans HW.out.size HA.out.size)))
                     have BN9 := Lib.hid (box_next hb9 BN.out)
                     clear ho9 hb9)
        have hs9 := HB9.out.size
        have hlcap : vq.length ≤ lk := by obtain ⟨_, _, e, h, _⟩ := HLS.out; injection e with _ _ e3; rw [e3]; exact h
        obtain ⟨lA', lk', el, _, _, hle⟩ := HLS.out
        injection el with el1 _ el3
        subst el1 el3
        have HLE := Lib.hid hle
        clear hle
        go_loopg [6] vq.length (fun g v wr => ∃ i : Nat, i + g = vq.length ∧ v = .int .i64 i ∧ Below W1.heap.size W1 wr)
        case atStart => exact ⟨0, by omega, rfl, Below.refl _ _⟩
        case round =>
          obtain ⟨wi, rfl⟩ : ∃ W, W = wr := ⟨_, rfl⟩
          obtain ⟨i, hig, rfl, hbi⟩ := hrel
          have HI := Lib.hid hig
          have HWI := Lib.hid hbi
          have hil : i ≤ vq.length := by omega
          clear hig hbi
          by_cases hlti : i < vq.length
          · obtain ⟨x, hx⟩ : ∃ x, vq[i]? = some x := ⟨_, List.getElem?_eq_getElem hlti⟩
            have HNT := Lib.hid (nodup_take HND.out hx)
            obtain ⟨Lx, hEx, rfl, _⟩ := HLE.out i x hx
            obtain ⟨b, eb, hb, hbb, c0⟩ := elem1 (hEx.under HWI.out)
            subst eb
            rw [Nat.mul_one] at c0 hbb
            have HTK := Lib.hid (show StrsAt wi (.slice (some b) i lk) (vq.take i) from SliceAt.take (HLS.out.under HWI.out) hil)
            have hik : i ≤ lk := by omega
            clear hx hEx
            go_wp2_with fail
            refine wp_region_held_drew (S := (fun W => W.cell? (b.add i) = some (.string (str x)))) (by kernel_rfl) ?_ (fun hHeld => ?_)
            · (try dsimp only); go_keep
            refine take_at 0 (v := ?_) rfl (by kernel_rfl) (by kernel_rfl) (by kernel_rfl) (fun _ _ _ h => h) (by rfl) ?_ (by assumption) ?_
            rotate_left
            · intro w hSw; (try dsimp only at hSw); go_simp; (try rw [if_neg (by assumption)]); (try rw [if_pos (by omega)]); (try simp only [hSw]); (try with_reducible rfl)
            try simp only [Act.put, List.setIfInBounds_toArray, List.set_cons_zero, List.set_cons_succ]
            refine take_at 1 (v := ?_) rfl (by kernel_rfl) (by kernel_rfl) (by kernel_rfl) (fun _ _ _ h => h) (by rfl) ?_ (by assumption) ?_
            rotate_left
            · intro w hSw; (try dsimp only at hSw); go_simp; (try rw [if_neg (by assumption)]); (try rw [if_pos (by omega)]); (try simp only [hSw]); (try with_reducible rfl)
            try simp only [Act.put, List.setIfInBounds_toArray, List.set_cons_zero, List.set_cons_succ]
            refine take_at 2 (v := ?_) rfl (by kernel_rfl) (by kernel_rfl) (by kernel_rfl) (fun _ _ _ h => h) (by rfl) ?_ (by assumption) ?_
            rotate_left
            · intro w hSw; (try dsimp only at hSw); go_simp; (try rw [if_neg (by assumption)]); (try rw [if_pos (by omega)]); (try simp only [hSw]); (try with_reducible rfl)
            try simp only [Act.put, List.setIfInBounds_toArray, List.set_cons_zero, List.set_cons_succ]
            refine take_at 3 (v := ?_) rfl (by kernel_rfl) (by kernel_rfl) (by kernel_rfl) (fun _ _ _ h => h) (by rfl) ?_ (by assumption) ?_
            rotate_left
            · intro w hSw; (try dsimp only at hSw); go_simp; (try rw [if_neg (by assumption)]); (try rw [if_pos (by omega)]); (try simp only [hSw]); (try with_reducible rfl)
            try simp only [Act.put, List.setIfInBounds_toArray, List.set_cons_zero, List.set_cons_succ]
            refine take_at 4 (v := ?_) rfl (by kernel_rfl) (by kernel_rfl) (by kernel_rfl) (fun _ _ _ h => h) (by rfl) ?_ (by assumption) ?_
            rotate_left
            · intro w hSw; (try dsimp only at hSw); go_simp; (try rw [if_neg (by assumption)]); (try rw [if_pos (by omega)]); (try simp only [hSw]); (try with_reducible rfl)
            try simp only [Act.put, List.setIfInBounds_toArray, List.set_cons_zero, List.set_cons_succ]
            refine take_at 5 (v := ?_) rfl (by kernel_rfl) (by kernel_rfl) (by kernel_rfl) (fun _ _ _ h => h) (by rfl) ?_ (by assumption) ?_
            rotate_left
            · intro w hSw; (try dsimp only at hSw); go_simp; (try rw [if_neg (by assumption)]); (try rw [if_pos (by omega)]); (try simp only [hSw]); (try with_reducible rfl)
            try simp only [Act.put, List.setIfInBounds_toArray, List.set_cons_zero, List.set_cons_succ]
            refine take_at 6 (v := ?_) rfl (by kernel_rfl) (by kernel_rfl) (by kernel_rfl) (fun _ _ _ h => h) (by rfl) ?_ (by assumption) ?_
            rotate_left
            · intro w hSw; (try dsimp only at hSw); go_simp; (try rw [if_neg (by assumption)]); (try rw [if_pos (by omega)]); (try simp only [hSw]); (try with_reducible rfl)
            try simp only [Act.put, List.setIfInBounds_toArray, List.set_cons_zero, List.set_cons_succ]
            refine only_at 7 (by kernel_rfl) rfl (fun K hK => ?_)
            go_simp
            (go_at_call 21
             (with_reducible refine (has_any (HTK.out.under (Below.refl _ wi).drew) x).mono ?_)
             rintro e w10 ⟨he, rfl⟩
             rw [HNT.out] at he
             subst he)
            refine hK.out _ _ ?_ (fun hHeld => ?_)
            · (try dsimp only); go_keep
            clear hK K
            refine wpAnyH_done (by kernel_rfl) ?_ _
            go_wp2_with fail
            go_roundg (vq.length - (i + 1))
            case measure => have := HI.out; omega
            case rel => exact ⟨i + 1, by omega, by go_num, HWI.out.drew⟩
          · have hie : i = vq.length := by omega
            have BNI := Lib.hid (box_next HWI.out BN9.out)
            obtain ⟨_, _, nb2, nb3, nb4⟩ := row5 BNI.out
            clear hie
            go_wp2_with fail
            clear nb2 nb3 nb4
            go_loopg [7] n.outs.length (fun g v wr => ∃ j : Nat, j + g = n.outs.length ∧ v = .int .i64 j ∧ Below W1.heap.size W1 wr)
            case atStart => exact ⟨0, by omega, rfl, HWI.out⟩
            case round =>
              obtain ⟨wj, rfl⟩ : ∃ W, W = wr := ⟨_, rfl⟩
              obtain ⟨j, hjg, rfl, hbj⟩ := hrel
              have HJ := Lib.hid hjg
              have HWJ := Lib.hid hbj
              have HBJ := Lib.hid (HB9.out.trans (hbj.mono hs9))
              have BNJ := Lib.hid (box_next hbj BN9.out)
              have hjl : j ≤ n.outs.length := by omega
              obtain ⟨_, _, nb2, nb3, nb4⟩ := row5 BNJ.out
              have hBl := lt_of_heap BNJ.out
              clear hjg hbj
              by_cases hltj : j < n.outs.length
              · obtain ⟨x, hx⟩ : ∃ x, n.outs[j]? = some x := ⟨_, List.getElem?_eq_getElem hltj⟩
                have HC1 := Lib.hid (show vq.contains x = true from List.contains_iff_mem.2 (HOW.out x (List.mem_of_getElem? hx)).1)
                have HC2 := Lib.hid (show n.ins.contains x = false by rw [← Bool.not_eq_true, List.contains_iff_mem]; exact (HOW.out x (List.mem_of_getElem? hx)).2)
                obtain ⟨Lx, hEx, rfl, _⟩ := HOE.out j x hx
                obtain ⟨b, eb, hb, hbb, c0⟩ := elem1 (hEx.under HBJ.out)
                subst eb
                rw [Nat.mul_one] at c0 hbb
                have hjk : j ≤ ok := by omega
                clear hx hEx
                go_wp2_with fail
                refine wp_region_held_drew (S := (fun W => W.cell? (b.add j) = some (.string (str x)) ∧ W.cell? ⟨wq.heap.size, 2, none⟩ = some (.slice iA n.ins.length ik) ∧ W.cell? ⟨wq.heap.size, 3, none⟩ = some (.slice (some b) n.outs.length ok))) (by kernel_rfl) ?_ (fun hHeld => ?_)
                · (try dsimp only); go_keep
                refine take_at 0 (v := ?_) rfl (by kernel_rfl) (by kernel_rfl) (by kernel_rfl) (fun _ _ _ h => h) (by rfl) ?_ (by assumption) ?_
                rotate_left
                · intro w hSw; (try dsimp only at hSw); go_simp; (try rw [if_neg (by assumption)]); (try rw [if_pos (by omega)]); (try simp only [hSw]); (try with_reducible rfl)
                try simp only [Act.put, List.setIfInBounds_toArray, List.set_cons_zero, List.set_cons_succ]
                refine take_at 1 (v := ?_) rfl (by kernel_rfl) (by kernel_rfl) (by kernel_rfl) (fun _ _ _ h => h) (by rfl) ?_ (by assumption) ?_
                rotate_left
                · intro w hSw; (try dsimp only at hSw); go_simp; (try rw [if_neg (by assumption)]); (try rw [if_pos (by omega)]); (try simp only [hSw]); (try with_reducible rfl)
                try simp only [Act.put, List.setIfInBounds_toArray, List.set_cons_zero, List.set_cons_succ]
                refine take_at 2 (v := ?_) rfl (by kernel_rfl) (by kernel_rfl) (by kernel_rfl) (fun _ _ _ h => h) (by rfl) ?_ (by assumption) ?_
                rotate_left
                · intro w hSw; (try dsimp only at hSw); go_simp; (try rw [if_neg (by assumption)]); (try rw [if_pos (by omega)]); (try simp only [hSw]); (try with_reducible rfl)
                try simp only [Act.put, List.setIfInBounds_toArray, List.set_cons_zero, List.set_cons_succ]
                refine take_at 3 (v := ?_) rfl (by kernel_rfl) (by kernel_rfl) (by kernel_rfl) (fun _ _ _ h => h) (by rfl) ?_ (by assumption) ?_
                rotate_left
                · intro w hSw; (try dsimp only at hSw); go_simp; (try rw [if_neg (by assumption)]); (try rw [if_pos (by omega)]); (try simp only [hSw]); (try with_reducible rfl)
                try simp only [Act.put, List.setIfInBounds_toArray, List.set_cons_zero, List.set_cons_succ]
                refine take_at 4 (v := ?_) rfl (by kernel_rfl) (by kernel_rfl) (by kernel_rfl) (fun _ _ _ h => h) (by rfl) ?_ (by assumption) ?_
                rotate_left
                · intro w hSw; (try dsimp only at hSw); go_simp; (try rw [if_neg (by assumption)]); (try rw [if_pos (by omega)]); (try simp only [hSw]); (try with_reducible rfl)
                try simp only [Act.put, List.setIfInBounds_toArray, List.set_cons_zero, List.set_cons_succ]
                refine take_at 5 (v := ?_) rfl (by kernel_rfl) (by kernel_rfl) (by kernel_rfl) (fun _ _ _ h => h) (by rfl) ?_ (by assumption) ?_
                rotate_left
                · intro w hSw; (try dsimp only at hSw); go_simp; (try rw [if_neg (by assumption)]); (try rw [if_pos (by omega)]); (try simp only [hSw]); (try with_reducible rfl)
                try simp only [Act.put, List.setIfInBounds_toArray, List.set_cons_zero, List.set_cons_succ]
                refine only_at 6 (by kernel_rfl) rfl (fun K hK => ?_)
                go_simp
                (go_at_call 21
                 (with_reducible refine (has_any ((HLS.out.under HWJ.out).under (Below.refl _ wj).drew) x).mono ?_)
                 rintro e w10 ⟨he, rfl⟩
                 rw [HC1.out] at he
                 subst he)
                refine hK.out _ _ ?_ (fun hHeld => ?_)
                · (try dsimp only); go_keep
                clear hK K
                try simp only [Act.put, List.setIfInBounds_toArray, List.set_cons_zero, List.set_cons_succ]
                refine take_at 7 (v := ?_) rfl (by kernel_rfl) (by kernel_rfl) (by kernel_rfl) (fun _ _ _ h => h) (by rfl) ?_ (by assumption) ?_
                rotate_left
                · intro w hSw; (try dsimp only at hSw); go_simp; (try rw [if_neg (by assumption)]); (try rw [if_pos (by omega)]); (try simp only [hSw]); (try with_reducible rfl)
                try simp only [Act.put, List.setIfInBounds_toArray, List.set_cons_zero, List.set_cons_succ]
                refine take_at 8 (v := ?_) rfl (by kernel_rfl) (by kernel_rfl) (by kernel_rfl) (fun _ _ _ h => h) (by rfl) ?_ (by assumption) ?_
                rotate_left
                · intro w hSw; (try dsimp only at hSw); go_simp; (try rw [if_neg (by assumption)]); (try rw [if_pos (by omega)]); (try simp only [hSw]); (try with_reducible rfl)
                try simp only [Act.put, List.setIfInBounds_toArray, List.set_cons_zero, List.set_cons_succ]
                refine take_at 9 (v := ?_) rfl (by kernel_rfl) (by kernel_rfl) (by kernel_rfl) (fun _ _ _ h => h) (by rfl) ?_ (by assumption) ?_
                rotate_left
                · intro w hSw; (try dsimp only at hSw); go_simp; (try rw [if_neg (by assumption)]); (try rw [if_pos (by omega)]); (try simp only [hSw]); (try with_reducible rfl)
                try simp only [Act.put, List.setIfInBounds_toArray, List.set_cons_zero, List.set_cons_succ]
                refine take_at 10 (v := ?_) rfl (by kernel_rfl) (by kernel_rfl) (by kernel_rfl) (fun _ _ _ h => h) (by rfl) ?_ (by assumption) ?_
                rotate_left
                · intro w hSw; (try dsimp only at hSw); go_simp; (try rw [if_neg (by assumption)]); (try rw [if_pos (by omega)]); (try simp only [hSw]); (try with_reducible rfl)
                try simp only [Act.put, List.setIfInBounds_toArray, List.set_cons_zero, List.set_cons_succ]
                refine take_at 11 (v := ?_) rfl (by kernel_rfl) (by kernel_rfl) (by kernel_rfl) (fun _ _ _ h => h) (by rfl) ?_ (by assumption) ?_
                rotate_left
                · intro w hSw; (try dsimp only at hSw); go_simp; (try rw [if_neg (by assumption)]); (try rw [if_pos (by omega)]); (try simp only [hSw]); (try with_reducible rfl)
                try simp only [Act.put, List.setIfInBounds_toArray, List.set_cons_zero, List.set_cons_succ]
                refine take_at 12 (v := ?_) rfl (by kernel_rfl) (by kernel_rfl) (by kernel_rfl) (fun _ _ _ h => h) (by rfl) ?_ (by assumption) ?_
                rotate_left
                · intro w hSw; (try dsimp only at hSw); go_simp; (try rw [if_neg (by assumption)]); (try rw [if_pos (by omega)]); (try simp only [hSw]); (try with_reducible rfl)
                try simp only [Act.put, List.setIfInBounds_toArray, List.set_cons_zero, List.set_cons_succ]
                refine take_at 13 (v := ?_) rfl (by kernel_rfl) (by kernel_rfl) (by kernel_rfl) (fun _ _ _ h => h) (by rfl) ?_ (by assumption) ?_
                rotate_left
                · intro w hSw; (try dsimp only at hSw); go_simp; (try rw [if_neg (by assumption)]); (try rw [if_pos (by omega)]); (try simp only [hSw]); (try with_reducible rfl)
                try simp only [Act.put, List.setIfInBounds_toArray, List.set_cons_zero, List.set_cons_succ]
                refine take_at 14 (v := ?_) rfl (by kernel_rfl) (by kernel_rfl) (by kernel_rfl) (fun _ _ _ h => h) (by rfl) ?_ (by assumption) ?_
                rotate_left
                · intro w hSw; (try dsimp only at hSw); go_simp; (try rw [if_neg (by assumption)]); (try rw [if_pos (by omega)]); (try simp only [hSw]); (try with_reducible rfl)
                try simp only [Act.put, List.setIfInBounds_toArray, List.set_cons_zero, List.set_cons_succ]
                refine take_at 15 (v := ?_) rfl (by kernel_rfl) (by kernel_rfl) (by kernel_rfl) (fun _ _ _ h => h) (by rfl) ?_ (by assumption) ?_
                rotate_left
                · intro w hSw; (try dsimp only at hSw); go_simp; (try rw [if_neg (by assumption)]); (try rw [if_pos (by omega)]); (try simp only [hSw]); (try with_reducible rfl)
                try simp only [Act.put, List.setIfInBounds_toArray, List.set_cons_zero, List.set_cons_succ]
                refine only_at 16 (by kernel_rfl) rfl (fun K hK => ?_)
                go_simp
                (go_at_call 21
                 (with_reducible refine (has_any ((HIN.out.under HBJ.out).under (Below.refl _ wj).drew) x).mono ?_)
                 rintro e w10 ⟨he, rfl⟩
                 rw [HC2.out] at he
                 subst he)
                refine hK.out _ _ ?_ (fun hHeld => ?_)
                · (try dsimp only); go_keep
                clear hK K
                try simp only [Act.put, List.setIfInBounds_toArray, List.set_cons_zero, List.set_cons_succ]
                refine take_at 17 (v := ?_) rfl (by kernel_rfl) (by kernel_rfl) (by kernel_rfl) (fun _ _ _ h => h) (by rfl) ?_ (by assumption) ?_
                rotate_left
                · intro w hSw; (try dsimp only at hSw); go_simp; (try rw [if_neg (by assumption)]); (try rw [if_pos (by omega)]); (try simp only [hSw]); (try with_reducible rfl)
                try simp only [Act.put, List.setIfInBounds_toArray, List.set_cons_zero, List.set_cons_succ]
                refine wpAnyH_done (by kernel_rfl) ?_ _
                go_wp2_with fail
                go_roundg (n.outs.length - (j + 1))
                case measure => have := HJ.out; omega
                case rel => exact ⟨j + 1, by omega, by go_num, HWJ.out.drew⟩
              · go_wp2_with fail
                clear nb2 nb3 nb4
                go_loopg [8] n.items.length (fun g v wr => ∃ m : Nat, m + g = n.items.length ∧ v = .int .i64 m ∧ Below W1.heap.size W1 wr)
                case atStart => exact ⟨0, by omega, rfl, HWJ.out⟩
                case round =>
                  obtain ⟨wm, rfl⟩ : ∃ W, W = wr := ⟨_, rfl⟩
                  obtain ⟨m, hmg, rfl, hbm⟩ := hrel
                  have HM := Lib.hid hmg
                  have HWM := Lib.hid hbm
                  have HBM := Lib.hid (HB9.out.trans (hbm.mono hs9))
                  have BNM := Lib.hid (box_next hbm BN9.out)
                  have hml : m ≤ n.items.length := by omega
                  obtain ⟨_, _, _, _, nb4⟩ := row5 BNM.out
                  clear hmg hbm
                  by_cases hltm : m < n.items.length
                  · obtain ⟨q, hqq⟩ : ∃ q, n.items[m]? = some q := ⟨_, List.getElem?_eq_getElem hltm⟩
                    have HVQ := Lib.hid (HVW.out q (List.mem_of_getElem? hqq))
                    obtain ⟨Lq, hEq, hRq⟩ := HXE.out m q hqq
                    obtain ⟨⟨qn, qe⟩, qs⟩ := q
                    obtain ⟨L', sv, rfl, ⟨nv, Le, rfl, hnv, hxe⟩, hstv⟩ := hRq
                    replace hnv : StrsAt w nv qn := hnv
                    replace hxe : ExAt w Le qe := hxe
                    replace hstv : SliceAt w (StateAt w) sv qs := hstv
                    obtain ⟨nA, nn, nk, rfl⟩ := SliceAt.shape hnv
                    obtain ⟨op, xnm, xm, xcs, xks⟩ := qe
                    obtain ⟨cv, kv, rfl, _, _, _, hcs, hks⟩ := hxe.open_
                    obtain ⟨cA, cn, ck, rfl⟩ := SliceAt.shape hcs
                    obtain ⟨kA, kn, kk, rfl⟩ := SliceAt.shape hks
                    obtain ⟨sA, sc, rfl, hsc, hsm, _⟩ := hstv
                    have hsl : qs.length ≤ 9223372036854775807 := by have h : qs.length ≤ sc := hsc; unfold maxLen at hsm; omega
                    simp only [List.cons_append, List.nil_append] at hEq
                    obtain ⟨a2, ea2, _, _, f0, f1, f2, f3, f4, f5, f6⟩ := elem7 (hEq.under HBM.out)
                    subst ea2
                    have HAM := Lib.hid ((Below.refl wm.heap.size wm).alloc (Nat.le_refl _) (.cells #[.slice nA nn nk, .int .i64 op, .string (str xnm), .int .i64 xm, .slice cA cn ck, .slice kA kn kk, .slice sA qs.length sc] 55))
                    clear hqq hEq hnv hxe hcs hks hsc hsm
                    by_cases hs0 : qs = []
                    · have HVC := Lib.hid (fun (h4 : op = 4) => HVQ.out hs0 op xnm xm xcs xks rfl h4)
                      clear HVQ
                      subst hs0
                      simp only [List.length_nil] at *
                      by_cases h4 : op = 4
                      · subst h4
                        have HC := Lib.hid (show vq.contains xnm = true from List.contains_iff_mem.2 (HVC.out rfl))
                        go_wp2_with (go_at_call 21
                                     (with_reducible refine (has_any ((HLS.out.under HWM.out).under HAM.out) xnm).mono ?_)
                                     rintro e w10 ⟨he, rfl⟩
                                     rw [HC.out] at he
                                     subst he)
                        go_roundg (n.items.length - (m + 1))
                        case measure => have := HM.out; omega
                        case rel => exact ⟨m + 1, by omega, by go_num, HWM.out.trans (HAM.out.mono HWM.out.size)⟩
                      · have hd4 : (op == 4) = false := by simp [h4]
                        clear h4
                        go_wp2_with fail
                        go_roundg (n.items.length - (m + 1))
                        case measure => have := HM.out; omega
                        case rel => exact ⟨m + 1, by omega, by go_num, HWM.out.trans (HAM.out.mono HWM.out.size)⟩
                    · have hd0 : ((qs.length : Int) == 0) = false := beq_eq_false_iff_ne.2 (by have := List.length_pos_iff.2 hs0; omega)
                      clear hs0
                      go_wp2_with fail
                      go_roundg (n.items.length - (m + 1))
                      case measure => have := HM.out; omega
                      case rel => exact ⟨m + 1, by omega, by go_num, HWM.out.trans (HAM.out.mono HWM.out.size)⟩
                  · go_wp2_with fail
                    go_roundg (p.nodes.length - (k + 1))
                    case measure => have := HK.out; omega
                    case rel => exact ⟨k + 1, by omega, by go_num, HW9.out.trans (HWM.out.mono (Nat.le_trans HW9.out.size (Nat.le_refl _)))⟩
      · go_wp2_with fail
        go_ret
        exact ⟨rfl, HBQ.out⟩
  · have hd : ((checkQ true p).1 != 0) = true := by simp [hc]
    clear hc
    go_enter Tryz.func7, Tryz.ntmps7
    go_wp2_with (first
      | (go_at_call 9
         (with_reducible refine (lives_any _).mono ?_)
         rintro e w7 ⟨rfl, hb7⟩
         obtain ⟨V1, rfl⟩ : ∃ W, W = w7 := ⟨_, rfl⟩
         have HB1 := Lib.hid (hal.out.trans (hb7.mono hal.out.size))
         have BP1 := Lib.hid (box_next hb7 BP.out)
         obtain ⟨_, _⟩ := row2 BP1.out
         clear hb7)
      | (go_at_call 10
         (with_reducible refine (HCK.out _ HB1.out).mono ?_)
         rintro e w8 ⟨rfl, hb8⟩
         have HB2 := Lib.hid (HB1.out.trans (hb8.mono HB1.out.size))
         clear hb8))
    go_ret
    exact ⟨rfl, HB2.out⟩
theorem vars_law (L : List Value) (p : QProg) (w : World) (hL : ProgAt w L p) (hp : wProg p ≤ 1048576) : Calls Tryz.prog 7 #[.agg L.toArray] w (Lived w) := by
  obtain ⟨A1, n1, k1, A2, n2, k2, rfl⟩ := prog_shape hL
  exact vars_walk hL (prog_few hp) (fun _ hn => vars_few hp hn)
end Go.Proofs.YtbpbnebcbjacdaaGreat
