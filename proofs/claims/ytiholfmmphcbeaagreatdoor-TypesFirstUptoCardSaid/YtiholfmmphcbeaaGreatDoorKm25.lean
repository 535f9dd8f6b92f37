import Derived.Test.YtiholfmmphcbeaaGreatDoorKm23
set_option maxHeartbeats 2000000
set_option maxRecDepth 100000
namespace Go.Proofs.YtiholfmmphcbeaaGreatDoor
open _root_.Go.Proofs.Tryz
open Go.RowKit
open Go.ChangeMaps Go.MapKept
open Go.Maps
theorem gq {w : World} {N : Nat} {T0 : TypeId} {v0 v1 v2 v3 v4 v5 v6 v7 : Value} (h : w.heap[N]? = some (.cells #[v0, v1, v2, v3, v4, v5, v6, v7] T0 (0, 0))) :
  w.cell? ⟨N, 0, none⟩ = some v0 /\ w.cell? ⟨N, 1, none⟩ = some v1 /\ w.cell? ⟨N, 2, none⟩ = some v2 /\ w.cell? ⟨N, 3, none⟩ = some v3 /\ w.cell? ⟨N, 4, none⟩ = some v4 /\ w.cell? ⟨N, 5, none⟩ = some v5 /\ w.cell? ⟨N, 6, none⟩ = some v6 /\ w.cell? ⟨N, 7, none⟩ = some v7 := by simp [World.cell?, h]
theorem sG {X : Type} {l : List (Tx × X)} {s : Tx} {x : X} (h : bl l s = some x) : ∃ i : Nat, l[i]? = some (s, x) := by
 unfold bl at h; cases hf : l.find? (λ p => p.1 == s) with
 | none => rw [hf] at h; cases h
 | some p =>
   rw [hf] at h; cases h; have h1 := List.find?_some hf; obtain ⟨i, hi⟩ := List.getElem?_of_mem (List.mem_of_find?_eq_some hf); obtain ⟨a, b⟩ := p; simp only [beq_iff_eq] at h1; subst h1; exact ⟨i, hi⟩
theorem nS {X : Type} {l : List (Tx × X)} {s : Tx} (h : bl l s = none) : s ∉ l.map Prod.fst := by
 unfold bl at h; rw [Option.map_eq_none_iff, List.find?_eq_none] at h; intro hm; obtain ⟨p, hp, rfl⟩ := List.mem_map.1 hm; exact h p hp (by simp)
theorem oT {X Y : Type} {l : List (Tx × X)} {m : List (Tx × Y)} (h : l.map Prod.fst = m.map Prod.fst) {i : Nat} {s : Tx} {y : Y} (hi : m[i]? = some (s, y)) : ∃ x, l[i]? = some (s, x) := by
 have h1 : (l.map Prod.fst)[i]? = some s := (by rw [h, List.getElem?_map, hi]; rfl); rw [List.getElem?_map] at h1; cases hl : l[i]? with
 | none => rw [hl] at h1; cases h1
 | some p =>
   rw [hl] at h1; obtain ⟨a, b⟩ := p; cases h1; exact ⟨b, rfl⟩
theorem iP.find {l : List (Tx × Value)} {ns : List (Tx × aA)} (h : iP l ns) {s : Tx} {q : aA} (hg : bl ns s = some q) : ∃ v, (s, v) ∈ l /\ EM v q := by
 obtain ⟨i, hi⟩ := sG hg; obtain ⟨v, hv⟩ := oT h.1 hi; exact ⟨v, List.mem_of_getElem? hv, h.2 i _ _ hv hi⟩
theorem fH.find {w : World} {l : List (Tx × Value)} {cs : List (Tx × List Tx)} (h : fH w l cs) {s : Tx} {q : List Tx} (hg : bl cs s = some q) : ∃ v, (s, v) ∈ l /\ te w v q := by
 obtain ⟨i, hi⟩ := sG hg; obtain ⟨v, hv⟩ := oT h.1 hi; exact ⟨v, List.mem_of_getElem? hv, h.2 i _ _ hv hi⟩
structure dT (w : World) (S P e c n t f v : Nat) (nd : Value × Value × Value × Value × Value) (s : dM) : Prop where
 prog : aR w P e c n t s.prog
 box : w.heap[S]? = some (.cells #[.pointer (some ⟨P, 0, none⟩), nd.1, nd.2.1, nd.2.2.1, nd.2.2.2.1, nd.2.2.2.2, .map (some f), .map (some v)] 139 (0, 0))
 mf : ax w f (bd e8 s.funs)
 mv : ∃ l, ax w v l /\ ay l = s.vars /\ ∀ p ∈ l, ShI p.2
 nf : f ≠ e /\ f ≠ c /\ f ≠ n /\ f ≠ t
 nv : v ≠ e /\ v ≠ c /\ v ≠ n /\ v ≠ t /\ v ≠ f
theorem dT.under {w w' : World} {S P e c n t f v : Nat} {nd : Value × Value × Value × Value × Value} {s : dM} (h : dT w S P e c n t f v nd s) (hb : Below w.heap.size w w') : dT w' S P e c n t f v nd s := by
 obtain ⟨l, h1, h2, h3⟩ := h.mv; exact ⟨h.prog.under hb, ao hb h.box, h.mf.under hb, ⟨l, h1.under hb, h2, h3⟩, h.nf, h.nv⟩
section
variable {S P e1 c1 n1 t1 f1 v1 : Nat} {nd : Value × Value × Value × Value × Value} {s : dM}
theorem tA {w : World} (h : dT w S P e1 c1 n1 t1 f1 v1 nd s) {x : Tx} (hl : x.length <= maxLen) : Calls prog 189 #[.pointer (some ⟨S, 0, none⟩), .string (str x)] w (ar (jD s x) w) := by
 have HS := zH h; have HL := zH hl; obtain ⟨ln, hmn, hrn⟩ := h.prog.mn; have hPl := ab h.prog.box; have hSl := ab h.box; have HMN := zH hmn; cases hg : bl s.prog.nodes x with
 | none =>
   have hrun := hmn.look_no underlying130 (Cn w) hl (by have := nS hg; rw [<- hrn.1] at this; exact this); have HQ := zH (show jD s x = s.funs.contains x by rw [jD, hg]; simp); obtain ⟨x0, x1, x2, x3⟩ := h.prog.row; obtain ⟨y0, y1, y2, y3, y4, y5, y6, y7⟩ := gq h.box; clear h hl hg hmn hrn; cases hc : s.funs.contains x
   . have HC := zH hc; clear hc; go_enter func189, ntmps189
     go_wp2_with (go_at_call 91
                  have hal : Below w.heap.size w (w.alloc (.cells #[.string ⟨#[]⟩, .slice none 0 0, .slice none 0 0, .slice none 0 0, .slice none 0 0] 53)) := (Below.refl _ w).alloc (Nat.le_refl _) _; (with_reducible refine (eS (HS.o.under hal).mf (er _) HL.o).mono ?_); rintro e w7 ⟨he, hb7⟩; rw [bN, HC.o] at he; subst he; have HB := zH (hal.trans (hb7.mono hal.size)); clear hal hb7)
     go_ret; exact ⟨ah (by rw [HQ.o, HC.o]), HB.o⟩
   . have HC := zH hc; clear hc; go_enter func189, ntmps189
     go_wp2_with (go_at_call 91
                  have hal : Below w.heap.size w (w.alloc (.cells #[.string ⟨#[]⟩, .slice none 0 0, .slice none 0 0, .slice none 0 0, .slice none 0 0] 53)) := (Below.refl _ w).alloc (Nat.le_refl _) _; (with_reducible refine (eS (HS.o.under hal).mf (er _) HL.o).mono ?_); rintro e w7 ⟨he, hb7⟩; rw [bN, HC.o] at he; subst he; obtain ⟨z0, z1, z2, z3, z4⟩ := aW (ao hb7 (heap_alloc_new w (.cells #[.string ⟨#[]⟩, .slice none 0 0, .slice none 0 0, .slice none 0 0, .slice none 0 0] 53))); have HB := zH (hal.trans (hb7.mono hal.size)); clear hal hb7)
     go_ret; exact ⟨ah (by rw [HQ.o, HC.o]), HB.o⟩
 | some q =>
   obtain ⟨v, hv, sN, A1, c1', A2, c2', A3, c3', A4, m4, c4', rfl⟩ := hrn.find hg; have hrun := hmn.look_yes underlying130 hv; have HQ := zH (show jD s x = (s.funs.contains x || q.funs.isEmpty) by rw [jD, hg]); obtain ⟨x0, x1, x2, x3⟩ := h.prog.row; obtain ⟨y0, y1, y2, y3, y4, y5, y6, y7⟩ := gq h.box; clear h hl hg hmn hrn hv; cases hc : s.funs.contains x
   . have HC := zH hc; clear hc; cases hq : q.funs with
     | nil =>
       have HE := zH (show q.funs.isEmpty = true by rw [hq]; rfl); have hd : ((q.funs.length : Int) == 0) = true := (by rw [hq]; rfl); clear hq; go_enter func189, ntmps189
       go_wp2_with (go_at_call 91
                    have hal : Below w.heap.size w (w.alloc (.cells #[.string sN, .slice A1 q.funs.length c1', .slice A2 q.ins.length c2', .slice A3 q.outs.length c3', .slice A4 m4 c4'] 53)) := (Below.refl _ w).alloc (Nat.le_refl _) _; (with_reducible refine (eS (HS.o.under hal).mf (er _) HL.o).mono ?_); rintro e w7 ⟨he, hb7⟩; rw [bN, HC.o] at he; subst he; obtain ⟨z0, z1, z2, z3, z4⟩ := aW (ao hb7 (heap_alloc_new w (.cells #[.string sN, .slice A1 q.funs.length c1', .slice A2 q.ins.length c2', .slice A3 q.outs.length c3', .slice A4 m4 c4'] 53))); have HB := zH (hal.trans (hb7.mono hal.size)); clear hal hb7)
       go_ret; exact ⟨ah (by rw [HQ.o, HC.o, HE.o]; rfl), HB.o⟩
     | cons a b =>
       have HE := zH (show q.funs.isEmpty = false by rw [hq]; rfl); have hd : ((q.funs.length : Int) == 0) = false := (by rw [hq]; simp; omega); clear hq; go_enter func189, ntmps189
       go_wp2_with (go_at_call 91
                    have hal : Below w.heap.size w (w.alloc (.cells #[.string sN, .slice A1 q.funs.length c1', .slice A2 q.ins.length c2', .slice A3 q.outs.length c3', .slice A4 m4 c4'] 53)) := (Below.refl _ w).alloc (Nat.le_refl _) _; (with_reducible refine (eS (HS.o.under hal).mf (er _) HL.o).mono ?_); rintro e w7 ⟨he, hb7⟩; rw [bN, HC.o] at he; subst he; obtain ⟨z0, z1, z2, z3, z4⟩ := aW (ao hb7 (heap_alloc_new w (.cells #[.string sN, .slice A1 q.funs.length c1', .slice A2 q.ins.length c2', .slice A3 q.outs.length c3', .slice A4 m4 c4'] 53))); have HB := zH (hal.trans (hb7.mono hal.size)); clear hal hb7)
       go_ret; exact ⟨ah (by rw [HQ.o, HC.o, HE.o]; rfl), HB.o⟩
   . have HC := zH hc; clear hc; go_enter func189, ntmps189
     go_wp2_with (go_at_call 91
                  have hal : Below w.heap.size w (w.alloc (.cells #[.string sN, .slice A1 q.funs.length c1', .slice A2 q.ins.length c2', .slice A3 q.outs.length c3', .slice A4 m4 c4'] 53)) := (Below.refl _ w).alloc (Nat.le_refl _) _; (with_reducible refine (eS (HS.o.under hal).mf (er _) HL.o).mono ?_); rintro e w7 ⟨he, hb7⟩; rw [bN, HC.o] at he; subst he; obtain ⟨z0, z1, z2, z3, z4⟩ := aW (ao hb7 (heap_alloc_new w (.cells #[.string sN, .slice A1 q.funs.length c1', .slice A2 q.ins.length c2', .slice A3 q.outs.length c3', .slice A4 m4 c4'] 53))); have HB := zH (hal.trans (hb7.mono hal.size)); clear hal hb7)
     go_ret; exact ⟨ah (by rw [HQ.o, HC.o]; rfl), HB.o⟩
end
section
variable {S P e1 c1 n1 t1 f1 v1 : Nat} {nd : Value × Value × Value × Value × Value} {s : dM}
theorem ng {w : World} (h : dT w S P e1 c1 n1 t1 f1 v1 nd s) {va : Value} {l : List Tx} (ha : aF w va l) (hne : l ≠ []) : Calls prog 167 #[.pointer (some ⟨S, 0, none⟩), va] w (ar (ez s l) w) := by
 have HS := zH h; have HA := zH ha; obtain ⟨lc, hmc, hrc⟩ := h.prog.mc; have hPl := ab h.prog.box; have hSl := ab h.box; obtain ⟨x0, x1, x2, x3⟩ := h.prog.row; obtain ⟨y0, y1, y2, y3, y4, y5, y6, y7⟩ := gq h.box; obtain ⟨A, ca, rfl, hc, hm, he⟩ := ha; have hll : l.length <= 9223372036854775807 := (by unfold maxLen at hm; omega); obtain ⟨c, r, rfl⟩ := List.exists_cons_of_ne_nil hne; obtain ⟨L0, hE0, rfl, hcl⟩ := he 0 c rfl; obtain ⟨a, rfl, hab, _, q0⟩ := dL hE0; simp only [Nat.zero_mul] at q0; rw [add_zero] at q0; have hpos : 0 < (c :: r).length := (by simp); cases hg : bl s.prog.cons c with
 | none =>
   have HQ := zH (show ez s (c :: r) = false by simp only [ez, hg]); have hrun := λ (W : World) (hW : Below w.heap.size w W) => (hmc.under hW).look_no underlying129 (GI W) hcl (by have := nS hg; rw [<- hrc.1] at this; exact this); have HRUN := zH hrun
   have KEEP := zH (show ∀ W, Below w.heap.size w W -> W.cell? ⟨S, 0, none⟩ = some (.pointer (some ⟨P, 0, none⟩)) /\ W.cell? ⟨P, 1, none⟩ = some (.map (some c1)) /\ W.cell? a = some (.string (str c)) /\ (Instr.lookup 129 (.map (some c1)) (.string (str c)) true).run prog W = .ok (.tuple #[.agg #[.string ⟨#[]⟩, .slice none 0 0], .bool false]) W from
    λ W hW => ⟨(hW.cell (p := ⟨S, 0, none⟩) hSl).trans y0, (hW.cell (p := ⟨P, 1, none⟩) hPl).trans x1, (hW.cell (p := a) hab).trans q0, HRUN.o W hW⟩)
   generalize (c :: r).length = nn at *; clear h hc hm he hE0 hne hg hmc hrc hrun hcl; go_enter func167, ntmps167
   go_wp2_with fail
   refine wp_region_held_drew (S := (λ W => W.cell? ⟨S, 0, none⟩ = some (.pointer (some ⟨P, 0, none⟩)) /\ W.cell? ⟨P, 1, none⟩ = some (.map (some c1)) /\ W.cell? a = some (.string (str c)) /\ (Instr.lookup 129 (.map (some c1)) (.string (str c)) true).run prog W = .ok (.tuple #[.agg #[.string ⟨#[]⟩, .slice none 0 0], .bool false]) W)) zK ?_ (λ hHeld => ?_)
   . exact KEEP.o _ (Below.refl _ _).drew
   refine aa 0 ?_; refine aa 1 ?_; refine aa 2 ?_; refine aa 3 ?_; refine aa 4 ?_; refine aa 5 ?_; refine aa 6 ?_; refine aa 7 ?_; refine aa 8 ?_; refine aa 9 ?_; refine aa 10 ?_; refine aa 11 ?_; refine aa 12 ?_; refine aa 13 ?_; refine aq 14 zK rfl (λ K hK => ?_); go_simp
   refine hK.out _ _ (KEEP.o _ ?_) (λ hHeld => ?_)
   . (repeat (first | exact Below.refl _ _ | exact Below.refl _ _ | refine Below.drew ?_ | refine Below.alloc ?_ (by simp) _ | refine Below.setCell ?_ (by simp) _))
   clear hK K; try simp only [Act.put, aO, aM, aN]
   refine aq 15 zK rfl (λ K hK => ?_); go_simp
   refine hK.out _ _ (KEEP.o _ ?_) (λ hHeld => ?_)
   . (repeat (first | exact Below.refl _ _ | exact Below.refl _ _ | refine Below.drew ?_ | refine Below.alloc ?_ (by simp) _ | refine Below.setCell ?_ (by simp) _))
   clear hK K; try simp only [Act.put, aO, aM, aN]
   refine aa 16 ?_; refine wpAnyH_done zK ?_ _; go_wp2_with fail
   go_ret; exact ⟨ah HQ.o.symm, ((Below.refl _ w).alloc (Nat.le_refl _) _).drew⟩
 | some cs =>
   have HQ := zH (show ez s (c :: r) = ((c :: r) == cs) by simp only [ez, hg]); obtain ⟨v, hv, sE, AE, mE, jE, rfl, hse⟩ := hrc.find hg; have HEQ := zH (qD HA.o hse); have hrun := λ (W : World) (hW : Below w.heap.size w W) => (hmc.under hW).look_yes underlying129 hv; have HRUN := zH hrun
   have KEEP := zH (show ∀ W, Below w.heap.size w W -> W.cell? ⟨S, 0, none⟩ = some (.pointer (some ⟨P, 0, none⟩)) /\ W.cell? ⟨P, 1, none⟩ = some (.map (some c1)) /\ W.cell? a = some (.string (str c)) /\ (Instr.lookup 129 (.map (some c1)) (.string (str c)) true).run prog W = .ok (.tuple #[.agg #[.string sE, .slice AE mE jE], .bool true]) W from
    λ W hW => ⟨(hW.cell (p := ⟨S, 0, none⟩) hSl).trans y0, (hW.cell (p := ⟨P, 1, none⟩) hPl).trans x1, (hW.cell (p := a) hab).trans q0, HRUN.o W hW⟩)
   generalize (c :: r).length = nn at *; clear h hc hm he hE0 hne hg hmc hrc hrun hcl hv hse; go_enter func167, ntmps167
   go_wp2_with fail
   refine wp_region_held_drew (S := (λ W => W.cell? ⟨S, 0, none⟩ = some (.pointer (some ⟨P, 0, none⟩)) /\ W.cell? ⟨P, 1, none⟩ = some (.map (some c1)) /\ W.cell? a = some (.string (str c)) /\ (Instr.lookup 129 (.map (some c1)) (.string (str c)) true).run prog W = .ok (.tuple #[.agg #[.string sE, .slice AE mE jE], .bool true]) W)) zK ?_ (λ hHeld => ?_)
   . exact KEEP.o _ (Below.refl _ _).drew
   refine aa 0 ?_; refine aa 1 ?_; refine aa 2 ?_; refine aa 3 ?_; refine aa 4 ?_; refine aa 5 ?_; refine aa 6 ?_; refine aa 7 ?_; refine aa 8 ?_; refine aa 9 ?_; refine aa 10 ?_; refine aa 11 ?_; refine aa 12 ?_; refine aa 13 ?_; refine aq 14 zK rfl (λ K hK => ?_); go_simp
   refine hK.out _ _ (KEEP.o _ ?_) (λ hHeld => ?_)
   . (repeat (first | exact Below.refl _ _ | exact Below.refl _ _ | refine Below.drew ?_ | refine Below.alloc ?_ (by simp) _ | refine Below.setCell ?_ (by simp) _))
   clear hK K; try simp only [Act.put, aO, aM, aN]
   refine aq 15 zK rfl (λ K hK => ?_); go_simp
   refine hK.out _ _ (KEEP.o _ ?_) (λ hHeld => ?_)
   . (repeat (first | exact Below.refl _ _ | exact Below.refl _ _ | refine Below.drew ?_ | refine Below.alloc ?_ (by simp) _ | refine Below.setCell ?_ (by simp) _))
   clear hK K; try simp only [Act.put, aO, aM, aN]
   refine aa 16 ?_; refine wpAnyH_done zK ?_ _
   go_wp2_with (go_at_call 182
                have hal : Below w.heap.size w (w.alloc (.cells #[.string sE, .slice AE mE jE] 74)).drew := ((Below.refl _ w).alloc (Nat.le_refl _) _).drew; (with_reducible refine (HEQ.o _ hal).mono ?_); rintro e w7 ⟨rfl, hb7⟩; have HB := zH (hal.trans (hb7.mono hal.size)); clear hal hb7)
   go_ret; exact ⟨ah HQ.o.symm, HB.o⟩
end
end Go.Proofs.YtiholfmmphcbeaaGreatDoor
