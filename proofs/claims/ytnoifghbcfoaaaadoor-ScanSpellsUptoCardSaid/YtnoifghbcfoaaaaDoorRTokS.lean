/-
  The contract of the reference's token, at signs; and for every text.
-/
import Derived.Test.YtnoifghbcfoaaaaDoorRTokW
namespace Go.Proofs.YtnoifghbcfoaaaaDoor
open Go.RowKit

theorem prefix_take {x l : List UInt8} : x.isPrefixOf l = true ↔ x.length ≤ l.length ∧ l.take x.length = x := by
  rw [List.isPrefixOf_iff_prefix, List.prefix_iff_eq_take]
  constructor
  · intro h
    exact ⟨by have := congrArg List.length h; rw [List.length_take] at this; omega, h.symm⟩
  · intro h; exact h.2.symm

theorem tok5 {w3 : World} {N : Nat} {x0 x1 x2 x3 x4 : Value} (h : w3.heap[N]? = some (.cells #[x0, x1, x2, x3, x4] 34 (0, 0))) :
    w3.cell? ⟨N, 0, none⟩ = some x0 ∧ w3.cell? ⟨N, 1, none⟩ = some x1 ∧ w3.cell? ⟨N, 2, none⟩ = some x2 ∧ w3.cell? ⟨N, 3, none⟩ = some x3 ∧ w3.cell? ⟨N, 4, none⟩ = some x4 ∧ (∀ j, w3.frozen? ⟨N, j, none⟩ = false) :=
  ⟨by simp [cell_of_row w3 N _ _ _ _ h], by simp [cell_of_row w3 N _ _ _ _ h], by simp [cell_of_row w3 N _ _ _ _ h], by simp [cell_of_row w3 N _ _ _ _ h], by simp [cell_of_row w3 N _ _ _ _ h], fun j => frozen_of_row w3 N j _ _ h⟩

set_option maxRecDepth 100000 in
set_option maxHeartbeats 4000000 in
theorem rtoken_sign (s : ByteArray) (w : World) (hs : s.size ≤ 65536) (h0 : 0 < s.size) (hd : digitB s[0] = false) (hn : runL s.data.toList = 0 ∨ s[0].toNat = 95)
    (hT : (signL s.data.toList ≠ [] → tokSort s.data.toList = 4 ∧ tokText s.data.toList = signL s.data.toList ∧ tokNum s.data.toList = 0) ∧ (signL s.data.toList = [] → tokSort s.data.toList = 0)) :
    Calls Tryd.prog 27 #[.string s] w (RTokPost s.data.toList w) := by
  have hm : s.size ≤ maxLen := by unfold maxLen; omega
  have hl : s.data.toList.length = s.size := by simp
  have hrl := runL_le s.data.toList
  have HT := Lib.hid hT
  have HL := Lib.hid hl
  clear hT
  have hn2 : (runL s.data.toList = 0) ∨ (0 < runL s.data.toList ∧ ((s[0].toNat : Int) != 95) = false ∧ ((s[0].toNat : Int) == 95) = true) := by
    rcases hn with h | h
    · exact .inl h
    · by_cases h2 : runL s.data.toList = 0
      · exact .inl h2
      · exact .inr ⟨by omega, by simp; omega, by simp; omega⟩
  clear hn
  rcases hn2 with hn2 | ⟨hn2, hu, hu'⟩
  all_goals go_enter Tryd.func27, Tryd.ntmps27
  all_goals go_wp2_with (first | (go_at_call 33; refine (rrun_any _ _ hm).mono ?_; rintro e w' ⟨rfl, rfl⟩) | (go_at_call 47; refine (rdigit_any _ _).mono ?_; rintro e w' ⟨rfl, rfl⟩) | (go_at_call 49; refine (rsigns_any _).mono ?_; rintro e w' ⟨rfl, rfl⟩))
  all_goals have hX := signs_at (w.alloc (.cells #[.int .i64 0, .string ⟨#[]⟩, .int .i64 0, .int .i64 0, .int .i64 0] 34))
  all_goals have hB := below_two w (.cells #[.int .i64 0, .string ⟨#[]⟩, .int .i64 0, .int .i64 0, .int .i64 0] 34) (.cells rsignsV 9) 0
  all_goals have hR : ((w.alloc (.cells #[.int .i64 0, .string ⟨#[]⟩, .int .i64 0, .int .i64 0, .int .i64 0] 34)).alloc (.cells rsignsV 9)).heap[w.heap.size]? = some (.cells #[.int .i64 0, .string ⟨#[]⟩, .int .i64 0, .int .i64 0, .int .i64 0] 34 (0, 0)) := heap_alloc2_old w _ _
  all_goals have hN : (w.alloc (.cells #[.int .i64 0, .string ⟨#[]⟩, .int .i64 0, .int .i64 0, .int .i64 0] 34)).heap.size = w.heap.size + 1 := by simp
  all_goals rw [hN] at hX
  all_goals have hB : Below w.heap.size w ((w.alloc (.cells #[.int .i64 0, .string ⟨#[]⟩, .int .i64 0, .int .i64 0, .int .i64 0] 34)).alloc (.cells rsignsV 9)) := hB
  all_goals generalize (w.alloc (.cells #[.int .i64 0, .string ⟨#[]⟩, .int .i64 0, .int .i64 0, .int .i64 0] 34)).alloc (.cells rsignsV 9) = W at hX hR hB
  all_goals have HX := Lib.hid hX
  all_goals have HR := Lib.hid hR
  all_goals have HB := Lib.hid hB
  all_goals clear hX hR hB hN
  · go_loopg [11] 18 (fun g v wr => ∃ (k nq : Nat), k + g = 18 ∧ v = .int .i64 k ∧ signL s.data.toList = signOf (signsL.drop k) s.data.toList ∧ wr = W.drewN nq)
    case atStart => exact ⟨0, 0, rfl, rfl, rfl, rfl⟩
    case round =>
      obtain ⟨k, nq, hk, rfl, hsg, rfl⟩ := hrel
      have HK := Lib.hid hk
      have HS := Lib.hid hsg
      have hk18 : k ≤ 18 := by omega
      have hR2 : (W.drewN nq).heap[w.heap.size]? = some (.cells #[.int .i64 0, .string ⟨#[]⟩, .int .i64 0, .int .i64 0, .int .i64 0] 34 (0, 0)) := HR.out
      have hB2 : Below w.heap.size w (W.drewN nq) := below_drewN HB.out nq
      have hX2 : ∀ k, k < 18 → (W.drewN nq).cell? ⟨w.heap.size + 1, k, none⟩ = some (.string (str (signsL.getD k []))) := fun k hk => by
        have := HX.out k hk
        rw [Nat.zero_add] at this
        exact this
      generalize hwr : W.drewN nq = wr at hR2 hB2 hX2
      have HWR := Lib.hid hwr
      have HR2 := Lib.hid hR2
      have HB2 := Lib.hid hB2
      clear hk hsg hwr
      by_cases hkn : k < 18
      · have c0 := hX2 k hkn
        have hd : signsL.drop k = signsL.getD k [] :: signsL.drop (k + 1) := by
          rw [List.drop_eq_getElem_cons (by simpa [signsL] using hkn)]
          simp [List.getD_eq_getElem?_getD, List.getElem?_eq_getElem (show k < signsL.length by simpa [signsL] using hkn)]
        have hx0 : signsL.getD k [] ≠ [] := by
          have hall : ∀ y ∈ signsL, y ≠ [] := by decide +kernel
          exact hall _ (by rw [List.getD_eq_getElem?_getD, List.getElem?_eq_getElem (show k < signsL.length by simpa [signsL] using hkn)]; exact List.getElem_mem _)
        generalize signsL.getD k [] = x at c0 hd hx0
        have HD := Lib.hid hd
        have HX0 := Lib.hid hx0
        clear hX2 hd hR2 hB2 hx0
        by_cases hp : x.isPrefixOf s.data.toList = true
        · obtain ⟨hp1, hp2⟩ := prefix_take.1 hp
          have hsz : (str x).size ≤ s.size := by rw [str_size, ← HL.out]; exact hp1
          have hxx : s.extract 0 (str x).size = str x := by rw [extract_str, str_size, hp2]; rfl
          have hge : decide ((s.size : Int) < ((str x).size : Int)) = false := by rw [decide_eq_false_iff_not]; omega
          have hge' : decide (((str x).size : Int) ≤ (s.size : Int)) = true := by rw [decide_eq_true_iff]; omega
          have e : signL s.data.toList = x := by rw [HS.out, HD.out]; simp [signOf, hp]
          have E := Lib.hid e
          clear hp hp1 hp2 e
          go_wp2_with fail
          go_quiet (fail)
          have hR3 : (wr.drewN nq).heap[w.heap.size]? = some (.cells #[.int .i64 0, .string ⟨#[]⟩, .int .i64 0, .int .i64 0, .int .i64 0] 34 (0, 0)) := HR2.out
          obtain ⟨y0, y1, y2, y3, y4, yf⟩ := tok5 hR3
          have HR3 := Lib.hid hR3
          have hB3 := Lib.hid (below_drewN HB2.out nq)
          clear hR3 hxx hge hge'
          go_wp2_with fail
          obtain ⟨h1, h2, h3⟩ := HT.out.1 (by rw [E.out]; exact HX0.out)
          exact bodyPost_ret (v := .tuple #[.agg #[.int .i64 4, .string (str x), .int .i64 0, .int .i64 0, .int .i64 0], .bool true]) (rtok_results rfl rfl (row5 (T := 34) HR3.out _ _ _ _ _)) rfl ⟨((((hB3.out.setCell (Nat.le_refl _) _).setCell (Nat.le_refl _) _).setCell (Nat.le_refl _) _).setCell (Nat.le_refl _) _).setCell (Nat.le_refl _) _, .inl ⟨by rw [h1]; decide, by rw [h1, h2, h3, E.out]⟩⟩
        · have e : signL s.data.toList = signOf (signsL.drop (k + 1)) s.data.toList := by
            have hp' : x.isPrefixOf s.data.toList = false := Bool.eq_false_iff.2 hp
            rw [HS.out, HD.out]; simp [signOf, hp']
          have E := Lib.hid e
          clear e
          by_cases hsz : (str x).size ≤ s.size
          · have hxx : s.extract 0 (str x).size = str (s.data.toList.take x.length) := by rw [extract_str, str_size]; rfl
            have hne : ((str (s.data.toList.take x.length)).toList == (str x).toList) = false := by
              rw [Lib.toList_data, Lib.toList_data, str_toList, str_toList]
              rw [beq_eq_false_iff_ne]
              intro h
              exact hp (prefix_take.2 ⟨by rw [HL.out]; exact hsz, h⟩)
            have hge : decide ((s.size : Int) < ((str x).size : Int)) = false := by rw [decide_eq_false_iff_not]; omega
            have hge' : decide (((str x).size : Int) ≤ (s.size : Int)) = true := by rw [decide_eq_true_iff]; omega
            clear hp
            generalize s.data.toList.take x.length = z at hxx hne
            go_wp2_with fail
            go_quiet (fail)
            clear hxx hne hge hge'
            go_wp2_with fail
            go_roundg (18 - (k + 1))
            case measure => have := HK.out; omega
            case rel => exact ⟨k + 1, _, by omega, by go_num, E.out, by rw [← HWR.out, World.drewN_drewN]⟩
          · have hge : decide (((str x).size : Int) ≤ (s.size : Int)) = false := by rw [decide_eq_false_iff_not]; omega
            clear hp
            go_wp2_with fail
            go_quiet (fail)
            clear hge
            go_wp2_with fail
            go_roundg (18 - (k + 1))
            case measure => have := HK.out; omega
            case rel => exact ⟨k + 1, _, by omega, by go_num, E.out, by rw [← HWR.out, World.drewN_drewN]⟩
      · have e : signL s.data.toList = [] := by
          rw [HS.out, List.drop_of_length_le (by simp [signsL]; omega)]; rfl
        have E := Lib.hid e
        obtain ⟨y0, y1, y2, y3, y4, yf⟩ := tok5 hR2
        clear e hX2 hR2 hB2
        go_wp2_with fail
        exact bodyPost_ret (v := .tuple #[.agg #[.int .i64 0, .string ⟨#[]⟩, .int .i64 0, .int .i64 0, .int .i64 0], .bool false]) (rtok_results rfl rfl (row5 (T := 34) HR2.out _ _ _ _ _)) rfl ⟨((((HB2.out.setCell (Nat.le_refl _) _).setCell (Nat.le_refl _) _).setCell (Nat.le_refl _) _).setCell (Nat.le_refl _) _).setCell (Nat.le_refl _) _, .inr ⟨HT.out.2 E.out, _, _, _, rfl⟩⟩
  · go_loopg [11] 18 (fun g v wr => ∃ (k nq : Nat), k + g = 18 ∧ v = .int .i64 k ∧ signL s.data.toList = signOf (signsL.drop k) s.data.toList ∧ wr = W.drewN nq)
    case atStart => exact ⟨0, 0, rfl, rfl, rfl, rfl⟩
    case round =>
      obtain ⟨k, nq, hk, rfl, hsg, rfl⟩ := hrel
      have HK := Lib.hid hk
      have HS := Lib.hid hsg
      have hk18 : k ≤ 18 := by omega
      have hR2 : (W.drewN nq).heap[w.heap.size]? = some (.cells #[.int .i64 0, .string ⟨#[]⟩, .int .i64 0, .int .i64 0, .int .i64 0] 34 (0, 0)) := HR.out
      have hB2 : Below w.heap.size w (W.drewN nq) := below_drewN HB.out nq
      have hX2 : ∀ k, k < 18 → (W.drewN nq).cell? ⟨w.heap.size + 1, k, none⟩ = some (.string (str (signsL.getD k []))) := fun k hk => by
        have := HX.out k hk
        rw [Nat.zero_add] at this
        exact this
      generalize hwr : W.drewN nq = wr at hR2 hB2 hX2
      have HWR := Lib.hid hwr
      have HR2 := Lib.hid hR2
      have HB2 := Lib.hid hB2
      clear hk hsg hwr
      by_cases hkn : k < 18
      · have c0 := hX2 k hkn
        have hd : signsL.drop k = signsL.getD k [] :: signsL.drop (k + 1) := by
          rw [List.drop_eq_getElem_cons (by simpa [signsL] using hkn)]
          simp [List.getD_eq_getElem?_getD, List.getElem?_eq_getElem (show k < signsL.length by simpa [signsL] using hkn)]
        have hx0 : signsL.getD k [] ≠ [] := by
          have hall : ∀ y ∈ signsL, y ≠ [] := by decide +kernel
          exact hall _ (by rw [List.getD_eq_getElem?_getD, List.getElem?_eq_getElem (show k < signsL.length by simpa [signsL] using hkn)]; exact List.getElem_mem _)
        generalize signsL.getD k [] = x at c0 hd hx0
        have HD := Lib.hid hd
        have HX0 := Lib.hid hx0
        clear hX2 hd hR2 hB2 hx0
        by_cases hp : x.isPrefixOf s.data.toList = true
        · obtain ⟨hp1, hp2⟩ := prefix_take.1 hp
          have hsz : (str x).size ≤ s.size := by rw [str_size, ← HL.out]; exact hp1
          have hxx : s.extract 0 (str x).size = str x := by rw [extract_str, str_size, hp2]; rfl
          have hge : decide ((s.size : Int) < ((str x).size : Int)) = false := by rw [decide_eq_false_iff_not]; omega
          have hge' : decide (((str x).size : Int) ≤ (s.size : Int)) = true := by rw [decide_eq_true_iff]; omega
          have e : signL s.data.toList = x := by rw [HS.out, HD.out]; simp [signOf, hp]
          have E := Lib.hid e
          clear hp hp1 hp2 e
          go_wp2_with fail
          go_quiet (fail)
          have hR3 : (wr.drewN nq).heap[w.heap.size]? = some (.cells #[.int .i64 0, .string ⟨#[]⟩, .int .i64 0, .int .i64 0, .int .i64 0] 34 (0, 0)) := HR2.out
          obtain ⟨y0, y1, y2, y3, y4, yf⟩ := tok5 hR3
          have HR3 := Lib.hid hR3
          have hB3 := Lib.hid (below_drewN HB2.out nq)
          clear hR3 hxx hge hge'
          go_wp2_with fail
          obtain ⟨h1, h2, h3⟩ := HT.out.1 (by rw [E.out]; exact HX0.out)
          exact bodyPost_ret (v := .tuple #[.agg #[.int .i64 4, .string (str x), .int .i64 0, .int .i64 0, .int .i64 0], .bool true]) (rtok_results rfl rfl (row5 (T := 34) HR3.out _ _ _ _ _)) rfl ⟨((((hB3.out.setCell (Nat.le_refl _) _).setCell (Nat.le_refl _) _).setCell (Nat.le_refl _) _).setCell (Nat.le_refl _) _).setCell (Nat.le_refl _) _, .inl ⟨by rw [h1]; decide, by rw [h1, h2, h3, E.out]⟩⟩
        · have e : signL s.data.toList = signOf (signsL.drop (k + 1)) s.data.toList := by
            have hp' : x.isPrefixOf s.data.toList = false := Bool.eq_false_iff.2 hp
            rw [HS.out, HD.out]; simp [signOf, hp']
          have E := Lib.hid e
          clear e
          by_cases hsz : (str x).size ≤ s.size
          · have hxx : s.extract 0 (str x).size = str (s.data.toList.take x.length) := by rw [extract_str, str_size]; rfl
            have hne : ((str (s.data.toList.take x.length)).toList == (str x).toList) = false := by
              rw [Lib.toList_data, Lib.toList_data, str_toList, str_toList]
              rw [beq_eq_false_iff_ne]
              intro h
              exact hp (prefix_take.2 ⟨by rw [HL.out]; exact hsz, h⟩)
            have hge : decide ((s.size : Int) < ((str x).size : Int)) = false := by rw [decide_eq_false_iff_not]; omega
            have hge' : decide (((str x).size : Int) ≤ (s.size : Int)) = true := by rw [decide_eq_true_iff]; omega
            clear hp
            generalize s.data.toList.take x.length = z at hxx hne
            go_wp2_with fail
            go_quiet (fail)
            clear hxx hne hge hge'
            go_wp2_with fail
            go_roundg (18 - (k + 1))
            case measure => have := HK.out; omega
            case rel => exact ⟨k + 1, _, by omega, by go_num, E.out, by rw [← HWR.out, World.drewN_drewN]⟩
          · have hge : decide (((str x).size : Int) ≤ (s.size : Int)) = false := by rw [decide_eq_false_iff_not]; omega
            clear hp
            go_wp2_with fail
            go_quiet (fail)
            clear hge
            go_wp2_with fail
            go_roundg (18 - (k + 1))
            case measure => have := HK.out; omega
            case rel => exact ⟨k + 1, _, by omega, by go_num, E.out, by rw [← HWR.out, World.drewN_drewN]⟩
      · have e : signL s.data.toList = [] := by
          rw [HS.out, List.drop_of_length_le (by simp [signsL]; omega)]; rfl
        have E := Lib.hid e
        obtain ⟨y0, y1, y2, y3, y4, yf⟩ := tok5 hR2
        clear e hX2 hR2 hB2
        go_wp2_with fail
        exact bodyPost_ret (v := .tuple #[.agg #[.int .i64 0, .string ⟨#[]⟩, .int .i64 0, .int .i64 0, .int .i64 0], .bool false]) (rtok_results rfl rfl (row5 (T := 34) HR2.out _ _ _ _ _)) rfl ⟨((((HB2.out.setCell (Nat.le_refl _) _).setCell (Nat.le_refl _) _).setCell (Nat.le_refl _) _).setCell (Nat.le_refl _) _).setCell (Nat.le_refl _) _, .inr ⟨HT.out.2 E.out, _, _, _, rfl⟩⟩
end Go.Proofs.YtnoifghbcfoaaaaDoor
