/-
  addHead: the head of a node.
-/
import Derived.Test.YtbpbnebcbjacdaaGreatScopeDist
import Derived.Test.YtbpbnebcbjacdaaGreatScopeSts
namespace Go.Proofs.YtbpbnebcbjacdaaGreat
open Go.RowKit
open Go.ChangeMaps Go.MapKept
open Go.Maps

theorem sh_nilI : ∀ p ∈ ([] : List (Tx × Value)), ShI p.2 := fun _ hp => absurd hp (List.not_mem_nil)
theorem MapAt.drew {w : World} {b : Nat} {l : List (Tx × Value)} (h : MapAt w b l) : MapAt w.drew b l := h
theorem rec_left {a b : List Tx} (h : recOk [] (a ++ b) = true) : recOk [] a = true := by
  rw [recOk_app, Bool.and_eq_true] at h; exact h.1
theorem rec_right {a b : List Tx} (h : recOk [] (a ++ b) = true) : recOk [] b = true := by
  rw [recOk_iff _ _ List.nodup_nil] at h ⊢
  rw [List.nil_append] at h ⊢
  exact (List.nodup_append.1 h).2.1
theorem distinct_two {W : World} {N : Nat} {T0 : TypeId} {fz : Nat × Nat} {u v : Value} {a b : List Tx} (h : W.heap[N]? = some (.cells #[u, v] T0 fz)) (h1 : StrsAt W u a) (h2 : StrsAt W v b) (hl : (a ++ b).length ≤ 2097152) :
    Calls Tryz.prog 74 #[.slice (some ⟨N, 0, none⟩) 2 2] W (BoolPost (recOk [] (a ++ b)) W) := by
  have := distinct_any (w := W) (A := some ⟨N, 0, none⟩) (c := 2) (ls := [a, b]) (made2 h ⟨u, rfl, h1⟩ ⟨v, rfl, h2⟩ rfl rfl) (by simpa using hl)
  simpa using this
theorem distinct_one {W : World} {N : Nat} {T0 : TypeId} {fz : Nat × Nat} {u : Value} {a : List Tx} (h : W.heap[N]? = some (.cells #[u] T0 fz)) (h1 : StrsAt W u a) (hl : a.length ≤ 2097152) :
    Calls Tryz.prog 74 #[.slice (some ⟨N, 0, none⟩) 1 1] W (BoolPost (recOk [] a) W) := by
  have := distinct_any (w := W) (A := some ⟨N, 0, none⟩) (c := 1) (ls := [a]) (made1 h ⟨u, rfl, h1⟩ rfl) (by simpa using hl)
  simpa using this
/-- what addHead leaves -/
def HeadPost (f1 v1 : Nat) (s : SProg) (q : QNode) (w : World) (e : Ending) (w' : World) : Prop :=
  e = .returned (.bool (headOk s q)) ∧ KeptM [f1, v1] w w' ∧ (headOk s q = true → MapAt w' f1 (withV unitV q.funs) ∧ MapAt w' v1 (withV (.int .i64 (-1)) q.ins))
theorem head_no {f1 v1 : Nat} {s : SProg} {q : QNode} {w w' : World} (h : headOk s q = false) (hk : KeptM [f1, v1] w w') : HeadPost f1 v1 s q w (.returned (.bool false)) w' :=
  ⟨ret_bool h.symm, hk, fun h' => by rw [h] at h'; cases h'⟩
section
variable {S P e1 c1 n1 t1 f1 v1 : Nat} {xA : Option Addr} {xn xk : Nat} {sp : SProg}
set_option maxHeartbeats 16000000 in
set_option maxRecDepth 100000 in
theorem addHead_any {w : World} {q : QNode} {fA iA oA : Option Addr} {fk ik ok : Nat} (hS : ScopeAt w P e1 c1 n1 t1 sp)
    (hbox : w.heap[S]? = some (.cells #[.pointer (some ⟨P, 0, none⟩), .string (str q.name), .slice fA q.funs.length fk, .slice iA q.ins.length ik, .slice oA q.outs.length ok, .slice xA xn xk, .map (some f1), .map (some v1)] 92 (0, 0)))
    (hf : StrsAt w (.slice fA q.funs.length fk) q.funs) (hi : StrsAt w (.slice iA q.ins.length ik) q.ins) (ho : StrsAt w (.slice oA q.outs.length ok) q.outs) (hnl : q.name.length ≤ maxLen)
    (hmf : MapAt w f1 []) (hmv : MapAt w v1 []) (hfv : f1 ≠ v1) (hl1 : (q.funs ++ q.ins).length ≤ 2097152) (hl2 : q.outs.length ≤ 2097152) :
    Calls Tryz.prog 44 #[.pointer (some ⟨S, 0, none⟩)] w (HeadPost f1 v1 sp q w) := by
  have hmk : ∀ (fn : Fn) (first cap : Array Value) (w : World), (Instr.makeFunc fn first cap).run Tryz.prog w = .ok (.func fn first cap) w := fun _ _ _ _ => rfl
  have HS := Lib.hid hS
  have HBOX := Lib.hid hbox
  have HF0 := Lib.hid hf
  have HI0 := Lib.hid hi
  have HO0 := Lib.hid ho
  have HNL := Lib.hid hnl
  have HMF0 := Lib.hid hmf
  have HMV0 := Lib.hid hmv
  have HFV := Lib.hid hfv
  have HL1 := Lib.hid hl1
  have HL2 := Lib.hid hl2
  have HOK := Lib.hid (show headOk sp q = (!sp.nodeKeys.contains q.name && (recOk [] (q.funs ++ q.ins) && (recOk [] q.outs && !q.funs.any fun f => f == q.name || sp.nodeKeys.contains f))) from rfl)
  have hSl := lt_of_heap hbox
  have hPl := lt_of_heap hS.box
  obtain ⟨y0, y1, y2, y3, y4, y5, y6, y7⟩ := row8 hbox
  clear hS hbox hf hi ho hnl hmf hmv hfv hl1 hl2
  go_enter Tryz.func44, Tryz.ntmps44
  go_wp2_with fail
  have BN0 := heap_alloc_new w (.cells #[.pointer (some ⟨S, 0, none⟩)] 89)
  have HVa := (Below.refl w.heap.size w).alloc (Nat.le_refl _) (.cells #[.pointer (some ⟨S, 0, none⟩)] 89)
  have HV := Lib.hid (HVa.alloc HVa.size (.cells #[.string (str q.name), .slice fA q.funs.length fk, .slice iA q.ins.length ik, .slice oA q.outs.length ok, .slice xA xn xk] 41))
  have BN := Lib.hid (alloc_below (o := .cells #[.string (str q.name), .slice fA q.funs.length fk, .slice iA q.ins.length ik, .slice oA q.outs.length ok, .slice xA xn xk] 41) BN0)
  have BM := Lib.hid (show ((w.alloc (.cells #[.pointer (some ⟨S, 0, none⟩)] 89)).alloc (.cells #[.string (str q.name), .slice fA q.funs.length fk, .slice iA q.ins.length ik, .slice oA q.outs.length ok, .slice xA xn xk] 41)).heap[w.heap.size + 1]? = some (.cells #[.string (str q.name), .slice fA q.funs.length fk, .slice iA q.ins.length ik, .slice oA q.outs.length ok, .slice xA xn xk] 41 (0, 0)) from alloc_at (by simp))
  generalize (w.alloc (.cells #[.pointer (some ⟨S, 0, none⟩)] 89)).alloc (.cells #[.string (str q.name), .slice fA q.funs.length fk, .slice iA q.ins.length ik, .slice oA q.outs.length ok, .slice xA xn xk] 41) = V at *
  clear HVa BN0
  have HSV := Lib.hid (HS.out.under HV.out)
  have HBX := Lib.hid (box_next HV.out HBOX.out)
  have HF := Lib.hid (HF0.out.under HV.out)
  have HI := Lib.hid (HI0.out.under HV.out)
  have HO := Lib.hid (HO0.out.under HV.out)
  have HMF := Lib.hid (HMF0.out.under HV.out)
  have HMV := Lib.hid (HMV0.out.under HV.out)
  obtain ⟨ln, hmn, hrn⟩ := HSV.out.mn
  have HMN := Lib.hid hmn
  have HSHN := Lib.hid hrn.sh
  have HKN := Lib.hid (show keysOf ln = sp.nodeKeys from hrn.1)
  clear hmn hrn
  have KEEP := Lib.hid (show ∀ W, KeptM [f1, v1] V W → W.cell? ⟨w.heap.size, 0, none⟩ = some (.pointer (some ⟨S, 0, none⟩)) ∧ W.cell? ⟨S, 0, none⟩ = some (.pointer (some ⟨P, 0, none⟩)) ∧ W.cell? ⟨S, 6, none⟩ = some (.map (some f1)) ∧ W.cell? ⟨S, 7, none⟩ = some (.map (some v1)) ∧ W.cell? ⟨P, 2, none⟩ = some (.map (some n1)) ∧ W.cell? ⟨w.heap.size + 1, 0, none⟩ = some (.string (str q.name)) ∧ W.cell? ⟨w.heap.size + 1, 1, none⟩ = some (.slice fA q.funs.length fk) ∧ W.cell? ⟨w.heap.size + 1, 2, none⟩ = some (.slice iA q.ins.length ik) ∧ W.cell? ⟨w.heap.size + 1, 3, none⟩ = some (.slice oA q.outs.length ok) from fun W hW => by
    have nb : ∀ {g : Nat} {cs : Array Value} {T0 : TypeId}, V.heap[g]? = some (.cells cs T0 (0, 0)) → g ∉ [f1, v1] := fun h => by
      have h1 := HMF.out.notbox h
      have h2 := HMV.out.notbox h
      simp [h1, h2]
    have a1 := row1 (box_kept hW (nb BN.out) BN.out)
    obtain ⟨b0, _, _, _, _, _, b6, b7⟩ := row8 (box_kept hW (nb HBX.out) HBX.out)
    obtain ⟨_, _, c2, _⟩ := rowM4 (box_kept hW (nb HSV.out.box) HSV.out.box)
    obtain ⟨d0, d1, d2, d3, _⟩ := row5 (box_kept hW (nb BM.out) BM.out)
    exact ⟨a1, b0, b6, b7, c2, d0, d1, d2, d3⟩)
  have HCF := Lib.hid (containsFS_any HF.out enter72 (f := fun f => f == q.name || sp.nodeKeys.contains f) (cap := #[.pointer (some ⟨w.heap.size + 1, 0, none⟩), .pointer (some ⟨w.heap.size, 0, none⟩)]) (fun x _ hx => takenC_any HSV.out HBX.out BN.out BM.out hx))
  clear y0 y1 y2 y3 y4 y5 y6 y7
  cases ha : sp.nodeKeys.contains q.name
  · have HA := Lib.hid ha
    rw [ha, Bool.not_false, Bool.true_and] at HOK
    clear ha
    cases hb1 : recOk [] (q.funs ++ q.ins)
    · have HB1 := Lib.hid hb1
      have HNO := Lib.hid (show headOk sp q = false by rw [HOK.out, hb1]; rfl)
      clear hb1
      refine wp_region_held_drew (S := (fun W => W.cell? ⟨w.heap.size, 0, none⟩ = some (.pointer (some ⟨S, 0, none⟩)) ∧ W.cell? ⟨S, 0, none⟩ = some (.pointer (some ⟨P, 0, none⟩)) ∧ W.cell? ⟨S, 6, none⟩ = some (.map (some f1)) ∧ W.cell? ⟨S, 7, none⟩ = some (.map (some v1)) ∧ W.cell? ⟨P, 2, none⟩ = some (.map (some n1)) ∧ W.cell? ⟨w.heap.size + 1, 0, none⟩ = some (.string (str q.name)) ∧ W.cell? ⟨w.heap.size + 1, 1, none⟩ = some (.slice fA q.funs.length fk) ∧ W.cell? ⟨w.heap.size + 1, 2, none⟩ = some (.slice iA q.ins.length ik) ∧ W.cell? ⟨w.heap.size + 1, 3, none⟩ = some (.slice oA q.outs.length ok))) (by kernel_rfl) ?_ (fun hHeld => ?_)
      · exact KEEP.out _ (KeptM.of_below (Below.refl _ _).drew)
      refine take_now 0 rfl ?_
      try simp only [Act.put, setA, setZ, setS]
      refine take_now 1 rfl ?_
      try simp only [Act.put, setA, setZ, setS]
      refine take_now 2 rfl ?_
      try simp only [Act.put, setA, setZ, setS]
      refine take_now 3 rfl ?_
      try simp only [Act.put, setA, setZ, setS]
      refine take_now 4 rfl ?_
      try simp only [Act.put, setA, setZ, setS]
      refine take_now 5 rfl ?_
      try simp only [Act.put, setA, setZ, setS]
      refine take_now 6 rfl ?_
      try simp only [Act.put, setA, setZ, setS]
      refine take_now 7 rfl ?_
      try simp only [Act.put, setA, setZ, setS]
      refine take_now 8 rfl ?_
      try simp only [Act.put, setA, setZ, setS]
      refine only_at 9 (by kernel_rfl) rfl (fun K hK => ?_)
      go_simp
      (go_at_call 73
       (with_reducible refine (knownN_any HMN.out.drew HSHN.out HNL.out).mono ?_)
       rintro e w7 ⟨he, hb7⟩
       rw [HKN.out, HA.out] at he
       subst he
       obtain ⟨V1, rfl⟩ : ∃ W, W = w7 := ⟨_, rfl⟩
       have B1 := Lib.hid ((Below.refl V.heap.size V).drew.trans hb7)
       clear hb7)
      refine hK.out _ _ (KEEP.out _ (KeptM.of_below B1.out)) (fun hHeld => ?_)
      clear hK K
      try simp only [Act.put, setA, setZ, setS]
      refine take_now 10 rfl ?_
      try simp only [Act.put, setA, setZ, setS]
      refine take_now 11 rfl ?_
      try simp only [Act.put, setA, setZ, setS]
      refine take_now 12 rfl ?_
      try simp only [Act.put, setA, setZ, setS]
      refine take_now 13 rfl ?_
      try simp only [Act.put, setA, setZ, setS]
      refine take_now 14 rfl ?_
      try simp only [Act.put, setA, setZ, setS]
      refine take_now 15 rfl ?_
      try simp only [Act.put, setA, setZ, setS]
      refine only_at 16 (by kernel_rfl) rfl (fun K hK => ?_)
      go_simp
      refine hK.out _ _ (KEEP.out _ (KeptM.of_below (B1.out.alloc B1.out.size _))) (fun hHeld => ?_)
      clear hK K
      try simp only [Act.put, setA, setZ, setS]
      have B2 := Lib.hid (B1.out.alloc B1.out.size (.cells #[.slice fA q.funs.length fk, .slice iA q.ins.length ik] 37))
      have BX2 := Lib.hid (heap_alloc_new V1 (.cells #[.slice fA q.funs.length fk, .slice iA q.ins.length ik] 37))
      generalize V1.alloc (.cells #[.slice fA q.funs.length fk, .slice iA q.ins.length ik] 37) = V2 at *
      refine only_at 17 (by kernel_rfl) rfl (fun K hK => ?_)
      go_simp
      (go_at_call 74
       (with_reducible refine (distinct_two BX2.out (HF.out.under B2.out) (HI.out.under B2.out) HL1.out).mono ?_)
       rintro e w7 ⟨he, hb7⟩
       rw [HB1.out] at he
       subst he
       obtain ⟨V3, rfl⟩ : ∃ W, W = w7 := ⟨_, rfl⟩
       have B3 := Lib.hid (B2.out.trans (hb7.mono B2.out.size))
       clear hb7)
      refine hK.out _ _ (KEEP.out _ (KeptM.of_below B3.out)) (fun hHeld => ?_)
      clear hK K
      try simp only [Act.put, setA, setZ, setS]
      refine take_now 18 rfl ?_
      try simp only [Act.put, setA, setZ, setS]
      refine take_now 19 rfl ?_
      try simp only [Act.put, setA, setZ, setS]
      refine skip_now 20 rfl ?_
      try simp only [Act.put, setA, setZ, setS]
      refine skip_now 21 rfl ?_
      try simp only [Act.put, setA, setZ, setS]
      refine skip_now 22 rfl ?_
      try simp only [Act.put, setA, setZ, setS]
      refine skip_now 23 rfl ?_
      try simp only [Act.put, setA, setZ, setS]
      refine take_now 24 rfl ?_
      try simp only [Act.put, setA, setZ, setS]
      refine take_now 25 rfl ?_
      try simp only [Act.put, setA, setZ, setS]
      refine skip_now 26 rfl ?_
      try simp only [Act.put, setA, setZ, setS]
      refine skip_now 27 rfl ?_
      try simp only [Act.put, setA, setZ, setS]
      refine skip_now 28 rfl ?_
      try simp only [Act.put, setA, setZ, setS]
      refine skip_now 29 rfl ?_
      try simp only [Act.put, setA, setZ, setS]
      refine skip_now 30 rfl ?_
      try simp only [Act.put, setA, setZ, setS]
      refine take_now 31 rfl ?_
      try simp only [Act.put, setA, setZ, setS]
      refine take_now 32 rfl ?_
      try simp only [Act.put, setA, setZ, setS]
      refine skip_now 33 rfl ?_
      try simp only [Act.put, setA, setZ, setS]
      refine skip_now 34 rfl ?_
      try simp only [Act.put, setA, setZ, setS]
      refine skip_now 35 rfl ?_
      try simp only [Act.put, setA, setZ, setS]
      refine skip_now 36 rfl ?_
      try simp only [Act.put, setA, setZ, setS]
      refine skip_now 37 rfl ?_
      try simp only [Act.put, setA, setZ, setS]
      refine skip_now 38 rfl ?_
      try simp only [Act.put, setA, setZ, setS]
      refine skip_now 39 rfl ?_
      try simp only [Act.put, setA, setZ, setS]
      refine skip_now 40 rfl ?_
      try simp only [Act.put, setA, setZ, setS]
      refine take_now 41 rfl ?_
      try simp only [Act.put, setA, setZ, setS]
      refine take_now 42 rfl ?_
      try simp only [Act.put, setA, setZ, setS]
      refine skip_now 43 rfl ?_
      try simp only [Act.put, setA, setZ, setS]
      refine skip_now 44 rfl ?_
      try simp only [Act.put, setA, setZ, setS]
      refine skip_now 45 rfl ?_
      try simp only [Act.put, setA, setZ, setS]
      refine skip_now 46 rfl ?_
      try simp only [Act.put, setA, setZ, setS]
      refine skip_now 47 rfl ?_
      try simp only [Act.put, setA, setZ, setS]
      refine skip_now 48 rfl ?_
      try simp only [Act.put, setA, setZ, setS]
      refine skip_now 49 rfl ?_
      try simp only [Act.put, setA, setZ, setS]
      refine take_now 50 rfl ?_
      try simp only [Act.put, setA, setZ, setS]
      refine take_now 51 rfl ?_
      try simp only [Act.put, setA, setZ, setS]
      refine wpAnyH_done (by kernel_rfl) ?_ _
      go_wp2_with fail
      go_ret
      exact head_no HNO.out ((KeptM.of_below HV.out).trans (KeptM.of_below B3.out))
    · have HB1 := Lib.hid hb1
      rw [hb1, Bool.true_and] at HOK
      have HR1 := Lib.hid (rec_left hb1)
      have HR2 := Lib.hid (rec_right hb1)
      clear hb1
      cases hc1 : recOk [] q.outs
      · have HC1 := Lib.hid hc1
        have HNO := Lib.hid (show headOk sp q = false by rw [HOK.out, hc1]; rfl)
        clear hc1
        refine wp_region_held_drew (S := (fun W => W.cell? ⟨w.heap.size, 0, none⟩ = some (.pointer (some ⟨S, 0, none⟩)) ∧ W.cell? ⟨S, 0, none⟩ = some (.pointer (some ⟨P, 0, none⟩)) ∧ W.cell? ⟨S, 6, none⟩ = some (.map (some f1)) ∧ W.cell? ⟨S, 7, none⟩ = some (.map (some v1)) ∧ W.cell? ⟨P, 2, none⟩ = some (.map (some n1)) ∧ W.cell? ⟨w.heap.size + 1, 0, none⟩ = some (.string (str q.name)) ∧ W.cell? ⟨w.heap.size + 1, 1, none⟩ = some (.slice fA q.funs.length fk) ∧ W.cell? ⟨w.heap.size + 1, 2, none⟩ = some (.slice iA q.ins.length ik) ∧ W.cell? ⟨w.heap.size + 1, 3, none⟩ = some (.slice oA q.outs.length ok))) (by kernel_rfl) ?_ (fun hHeld => ?_)
        · exact KEEP.out _ (KeptM.of_below (Below.refl _ _).drew)
        refine take_now 0 rfl ?_
        try simp only [Act.put, setA, setZ, setS]
        refine take_now 1 rfl ?_
        try simp only [Act.put, setA, setZ, setS]
        refine take_now 2 rfl ?_
        try simp only [Act.put, setA, setZ, setS]
        refine take_now 3 rfl ?_
        try simp only [Act.put, setA, setZ, setS]
        refine take_now 4 rfl ?_
        try simp only [Act.put, setA, setZ, setS]
        refine take_now 5 rfl ?_
        try simp only [Act.put, setA, setZ, setS]
        refine take_now 6 rfl ?_
        try simp only [Act.put, setA, setZ, setS]
        refine take_now 7 rfl ?_
        try simp only [Act.put, setA, setZ, setS]
        refine take_now 8 rfl ?_
        try simp only [Act.put, setA, setZ, setS]
        refine only_at 9 (by kernel_rfl) rfl (fun K hK => ?_)
        go_simp
        (go_at_call 73
         (with_reducible refine (knownN_any HMN.out.drew HSHN.out HNL.out).mono ?_)
         rintro e w7 ⟨he, hb7⟩
         rw [HKN.out, HA.out] at he
         subst he
         obtain ⟨V1, rfl⟩ : ∃ W, W = w7 := ⟨_, rfl⟩
         have B1 := Lib.hid ((Below.refl V.heap.size V).drew.trans hb7)
         clear hb7)
        refine hK.out _ _ (KEEP.out _ (KeptM.of_below B1.out)) (fun hHeld => ?_)
        clear hK K
        try simp only [Act.put, setA, setZ, setS]
        refine take_now 10 rfl ?_
        try simp only [Act.put, setA, setZ, setS]
        refine take_now 11 rfl ?_
        try simp only [Act.put, setA, setZ, setS]
        refine take_now 12 rfl ?_
        try simp only [Act.put, setA, setZ, setS]
        refine take_now 13 rfl ?_
        try simp only [Act.put, setA, setZ, setS]
        refine take_now 14 rfl ?_
        try simp only [Act.put, setA, setZ, setS]
        refine take_now 15 rfl ?_
        try simp only [Act.put, setA, setZ, setS]
        refine only_at 16 (by kernel_rfl) rfl (fun K hK => ?_)
        go_simp
        refine hK.out _ _ (KEEP.out _ (KeptM.of_below (B1.out.alloc B1.out.size _))) (fun hHeld => ?_)
        clear hK K
        try simp only [Act.put, setA, setZ, setS]
        have B2 := Lib.hid (B1.out.alloc B1.out.size (.cells #[.slice fA q.funs.length fk, .slice iA q.ins.length ik] 37))
        have BX2 := Lib.hid (heap_alloc_new V1 (.cells #[.slice fA q.funs.length fk, .slice iA q.ins.length ik] 37))
        generalize V1.alloc (.cells #[.slice fA q.funs.length fk, .slice iA q.ins.length ik] 37) = V2 at *
        refine only_at 17 (by kernel_rfl) rfl (fun K hK => ?_)
        go_simp
        (go_at_call 74
         (with_reducible refine (distinct_two BX2.out (HF.out.under B2.out) (HI.out.under B2.out) HL1.out).mono ?_)
         rintro e w7 ⟨he, hb7⟩
         rw [HB1.out] at he
         subst he
         obtain ⟨V3, rfl⟩ : ∃ W, W = w7 := ⟨_, rfl⟩
         have B3 := Lib.hid (B2.out.trans (hb7.mono B2.out.size))
         clear hb7)
        refine hK.out _ _ (KEEP.out _ (KeptM.of_below B3.out)) (fun hHeld => ?_)
        clear hK K
        try simp only [Act.put, setA, setZ, setS]
        refine take_now 18 rfl ?_
        try simp only [Act.put, setA, setZ, setS]
        refine take_now 19 rfl ?_
        try simp only [Act.put, setA, setZ, setS]
        refine take_now 20 rfl ?_
        try simp only [Act.put, setA, setZ, setS]
        refine take_now 21 rfl ?_
        try simp only [Act.put, setA, setZ, setS]
        refine only_at 22 (by kernel_rfl) rfl (fun K hK => ?_)
        go_simp
        refine hK.out _ _ (KEEP.out _ (KeptM.of_below (B3.out.alloc B3.out.size _))) (fun hHeld => ?_)
        clear hK K
        try simp only [Act.put, setA, setZ, setS]
        have B4 := Lib.hid (B3.out.alloc B3.out.size (.cells #[.slice oA q.outs.length ok] 37))
        have BX4 := Lib.hid (heap_alloc_new V3 (.cells #[.slice oA q.outs.length ok] 37))
        generalize V3.alloc (.cells #[.slice oA q.outs.length ok] 37) = V4 at *
        refine only_at 23 (by kernel_rfl) rfl (fun K hK => ?_)
        go_simp
        (go_at_call 74
         (with_reducible refine (distinct_one BX4.out (HO.out.under B4.out) HL2.out).mono ?_)
         rintro e w7 ⟨he, hb7⟩
         rw [HC1.out] at he
         subst he
         obtain ⟨V5, rfl⟩ : ∃ W, W = w7 := ⟨_, rfl⟩
         have B5 := Lib.hid (B4.out.trans (hb7.mono B4.out.size))
         clear hb7)
        refine hK.out _ _ (KEEP.out _ (KeptM.of_below B5.out)) (fun hHeld => ?_)
        clear hK K
        try simp only [Act.put, setA, setZ, setS]
        refine take_now 24 rfl ?_
        try simp only [Act.put, setA, setZ, setS]
        refine take_now 25 rfl ?_
        try simp only [Act.put, setA, setZ, setS]
        refine skip_now 26 rfl ?_
        try simp only [Act.put, setA, setZ, setS]
        refine skip_now 27 rfl ?_
        try simp only [Act.put, setA, setZ, setS]
        refine skip_now 28 rfl ?_
        try simp only [Act.put, setA, setZ, setS]
        refine skip_now 29 rfl ?_
        try simp only [Act.put, setA, setZ, setS]
        refine skip_now 30 rfl ?_
        try simp only [Act.put, setA, setZ, setS]
        refine take_now 31 rfl ?_
        try simp only [Act.put, setA, setZ, setS]
        refine take_now 32 rfl ?_
        try simp only [Act.put, setA, setZ, setS]
        refine skip_now 33 rfl ?_
        try simp only [Act.put, setA, setZ, setS]
        refine skip_now 34 rfl ?_
        try simp only [Act.put, setA, setZ, setS]
        refine skip_now 35 rfl ?_
        try simp only [Act.put, setA, setZ, setS]
        refine skip_now 36 rfl ?_
        try simp only [Act.put, setA, setZ, setS]
        refine skip_now 37 rfl ?_
        try simp only [Act.put, setA, setZ, setS]
        refine skip_now 38 rfl ?_
        try simp only [Act.put, setA, setZ, setS]
        refine skip_now 39 rfl ?_
        try simp only [Act.put, setA, setZ, setS]
        refine skip_now 40 rfl ?_
        try simp only [Act.put, setA, setZ, setS]
        refine take_now 41 rfl ?_
        try simp only [Act.put, setA, setZ, setS]
        refine take_now 42 rfl ?_
        try simp only [Act.put, setA, setZ, setS]
        refine skip_now 43 rfl ?_
        try simp only [Act.put, setA, setZ, setS]
        refine skip_now 44 rfl ?_
        try simp only [Act.put, setA, setZ, setS]
        refine skip_now 45 rfl ?_
        try simp only [Act.put, setA, setZ, setS]
        refine skip_now 46 rfl ?_
        try simp only [Act.put, setA, setZ, setS]
        refine skip_now 47 rfl ?_
        try simp only [Act.put, setA, setZ, setS]
        refine skip_now 48 rfl ?_
        try simp only [Act.put, setA, setZ, setS]
        refine skip_now 49 rfl ?_
        try simp only [Act.put, setA, setZ, setS]
        refine take_now 50 rfl ?_
        try simp only [Act.put, setA, setZ, setS]
        refine take_now 51 rfl ?_
        try simp only [Act.put, setA, setZ, setS]
        refine wpAnyH_done (by kernel_rfl) ?_ _
        go_wp2_with fail
        go_ret
        exact head_no HNO.out ((KeptM.of_below HV.out).trans (KeptM.of_below B5.out))
      · have HC1 := Lib.hid hc1
        rw [hc1, Bool.true_and] at HOK
        clear hc1
        cases hd1 : q.funs.any (fun f => f == q.name || sp.nodeKeys.contains f)
        · have HD1 := Lib.hid hd1
          have HY := Lib.hid (show headOk sp q = true by rw [HOK.out, hd1]; rfl)
          clear hd1
          refine wp_region_held_drew (S := (fun W => W.cell? ⟨w.heap.size, 0, none⟩ = some (.pointer (some ⟨S, 0, none⟩)) ∧ W.cell? ⟨S, 0, none⟩ = some (.pointer (some ⟨P, 0, none⟩)) ∧ W.cell? ⟨S, 6, none⟩ = some (.map (some f1)) ∧ W.cell? ⟨S, 7, none⟩ = some (.map (some v1)) ∧ W.cell? ⟨P, 2, none⟩ = some (.map (some n1)) ∧ W.cell? ⟨w.heap.size + 1, 0, none⟩ = some (.string (str q.name)) ∧ W.cell? ⟨w.heap.size + 1, 1, none⟩ = some (.slice fA q.funs.length fk) ∧ W.cell? ⟨w.heap.size + 1, 2, none⟩ = some (.slice iA q.ins.length ik) ∧ W.cell? ⟨w.heap.size + 1, 3, none⟩ = some (.slice oA q.outs.length ok))) (by kernel_rfl) ?_ (fun hHeld => ?_)
          · exact KEEP.out _ (KeptM.of_below (Below.refl _ _).drew)
          refine take_now 0 rfl ?_
          try simp only [Act.put, setA, setZ, setS]
          refine take_now 1 rfl ?_
          try simp only [Act.put, setA, setZ, setS]
          refine take_now 2 rfl ?_
          try simp only [Act.put, setA, setZ, setS]
          refine take_now 3 rfl ?_
          try simp only [Act.put, setA, setZ, setS]
          refine take_now 4 rfl ?_
          try simp only [Act.put, setA, setZ, setS]
          refine take_now 5 rfl ?_
          try simp only [Act.put, setA, setZ, setS]
          refine take_now 6 rfl ?_
          try simp only [Act.put, setA, setZ, setS]
          refine take_now 7 rfl ?_
          try simp only [Act.put, setA, setZ, setS]
          refine take_now 8 rfl ?_
          try simp only [Act.put, setA, setZ, setS]
          refine only_at 9 (by kernel_rfl) rfl (fun K hK => ?_)
          go_simp
          (go_at_call 73
           (with_reducible refine (knownN_any HMN.out.drew HSHN.out HNL.out).mono ?_)
           rintro e w7 ⟨he, hb7⟩
           rw [HKN.out, HA.out] at he
           subst he
           obtain ⟨V1, rfl⟩ : ∃ W, W = w7 := ⟨_, rfl⟩
           have B1 := Lib.hid ((Below.refl V.heap.size V).drew.trans hb7)
           clear hb7)
          refine hK.out _ _ (KEEP.out _ (KeptM.of_below B1.out)) (fun hHeld => ?_)
          clear hK K
          try simp only [Act.put, setA, setZ, setS]
          refine take_now 10 rfl ?_
          try simp only [Act.put, setA, setZ, setS]
          refine take_now 11 rfl ?_
          try simp only [Act.put, setA, setZ, setS]
          refine take_now 12 rfl ?_
          try simp only [Act.put, setA, setZ, setS]
          refine take_now 13 rfl ?_
          try simp only [Act.put, setA, setZ, setS]
          refine take_now 14 rfl ?_
          try simp only [Act.put, setA, setZ, setS]
          refine take_now 15 rfl ?_
          try simp only [Act.put, setA, setZ, setS]
          refine only_at 16 (by kernel_rfl) rfl (fun K hK => ?_)
          go_simp
          refine hK.out _ _ (KEEP.out _ (KeptM.of_below (B1.out.alloc B1.out.size _))) (fun hHeld => ?_)
          clear hK K
          try simp only [Act.put, setA, setZ, setS]
          have B2 := Lib.hid (B1.out.alloc B1.out.size (.cells #[.slice fA q.funs.length fk, .slice iA q.ins.length ik] 37))
          have BX2 := Lib.hid (heap_alloc_new V1 (.cells #[.slice fA q.funs.length fk, .slice iA q.ins.length ik] 37))
          generalize V1.alloc (.cells #[.slice fA q.funs.length fk, .slice iA q.ins.length ik] 37) = V2 at *
          refine only_at 17 (by kernel_rfl) rfl (fun K hK => ?_)
          go_simp
          (go_at_call 74
           (with_reducible refine (distinct_two BX2.out (HF.out.under B2.out) (HI.out.under B2.out) HL1.out).mono ?_)
           rintro e w7 ⟨he, hb7⟩
           rw [HB1.out] at he
           subst he
           obtain ⟨V3, rfl⟩ : ∃ W, W = w7 := ⟨_, rfl⟩
           have B3 := Lib.hid (B2.out.trans (hb7.mono B2.out.size))
           clear hb7)
          refine hK.out _ _ (KEEP.out _ (KeptM.of_below B3.out)) (fun hHeld => ?_)
          clear hK K
          try simp only [Act.put, setA, setZ, setS]
          refine take_now 18 rfl ?_
          try simp only [Act.put, setA, setZ, setS]
          refine take_now 19 rfl ?_
          try simp only [Act.put, setA, setZ, setS]
          refine take_now 20 rfl ?_
          try simp only [Act.put, setA, setZ, setS]
          refine take_now 21 rfl ?_
          try simp only [Act.put, setA, setZ, setS]
          refine only_at 22 (by kernel_rfl) rfl (fun K hK => ?_)
          go_simp
          refine hK.out _ _ (KEEP.out _ (KeptM.of_below (B3.out.alloc B3.out.size _))) (fun hHeld => ?_)
          clear hK K
          try simp only [Act.put, setA, setZ, setS]
          have B4 := Lib.hid (B3.out.alloc B3.out.size (.cells #[.slice oA q.outs.length ok] 37))
          have BX4 := Lib.hid (heap_alloc_new V3 (.cells #[.slice oA q.outs.length ok] 37))
          generalize V3.alloc (.cells #[.slice oA q.outs.length ok] 37) = V4 at *
          refine only_at 23 (by kernel_rfl) rfl (fun K hK => ?_)
          go_simp
          (go_at_call 74
           (with_reducible refine (distinct_one BX4.out (HO.out.under B4.out) HL2.out).mono ?_)
           rintro e w7 ⟨he, hb7⟩
           rw [HC1.out] at he
           subst he
           obtain ⟨V5, rfl⟩ : ∃ W, W = w7 := ⟨_, rfl⟩
           have B5 := Lib.hid (B4.out.trans (hb7.mono B4.out.size))
           clear hb7)
          refine hK.out _ _ (KEEP.out _ (KeptM.of_below B5.out)) (fun hHeld => ?_)
          clear hK K
          try simp only [Act.put, setA, setZ, setS]
          refine take_now 24 rfl ?_
          try simp only [Act.put, setA, setZ, setS]
          refine take_now 25 rfl ?_
          try simp only [Act.put, setA, setZ, setS]
          refine take_now 26 rfl ?_
          try simp only [Act.put, setA, setZ, setS]
          refine take_now 27 rfl ?_
          try simp only [Act.put, setA, setZ, setS]
          refine take_now 28 rfl ?_
          try simp only [Act.put, setA, setZ, setS]
          refine only_at 29 (by kernel_rfl) rfl (fun K hK => ?_)
          go_simp
          (go_at_call 75
           (with_reducible refine (HCF.out _ B5.out).mono ?_)
           rintro e w7 ⟨he, hb7⟩
           rw [HD1.out] at he
           subst he
           obtain ⟨V6, rfl⟩ : ∃ W, W = w7 := ⟨_, rfl⟩
           have B6 := Lib.hid (B5.out.trans (hb7.mono B5.out.size))
           clear hb7)
          refine hK.out _ _ (KEEP.out _ (KeptM.of_below B6.out)) (fun hHeld => ?_)
          clear hK K
          try simp only [Act.put, setA, setZ, setS]
          refine take_now 30 rfl ?_
          try simp only [Act.put, setA, setZ, setS]
          refine take_now 31 rfl ?_
          try simp only [Act.put, setA, setZ, setS]
          refine take_now 32 rfl ?_
          try simp only [Act.put, setA, setZ, setS]
          refine take_now 33 rfl ?_
          try simp only [Act.put, setA, setZ, setS]
          refine take_now 34 rfl ?_
          try simp only [Act.put, setA, setZ, setS]
          refine take_now 35 rfl ?_
          try simp only [Act.put, setA, setZ, setS]
          refine take_now 36 rfl ?_
          try simp only [Act.put, setA, setZ, setS]
          refine take_now 37 rfl ?_
          try simp only [Act.put, setA, setZ, setS]
          refine take_now 38 rfl ?_
          try simp only [Act.put, setA, setZ, setS]
          refine take_now 39 rfl ?_
          try simp only [Act.put, setA, setZ, setS]
          refine only_at 40 (by kernel_rfl) rfl (fun K hK => ?_)
          go_simp
          (go_at_call 43
           (with_reducible refine (recordS_any (l := []) (HMF.out.under B6.out) sh_nil (HF.out.under B6.out)).mono ?_)
           rintro e w7 ⟨he, hk, hm⟩
           rw [show keysOf ([] : List (Tx × Value)) = [] from rfl, HR1.out] at he
           subst he
           obtain ⟨V7, rfl⟩ : ∃ W, W = w7 := ⟨_, rfl⟩
           have K7 := Lib.hid ((KeptM.of_below (M := [f1, v1]) B6.out).trans (hk.mono (by simp)))
           have HM7 := Lib.hid (hm HR1.out)
           have HV7 := Lib.hid ((HMV.out.under B6.out).keptM hk (by simpa using fun e => HFV.out e.symm))
           have HI7 := Lib.hid ((HI.out.under B6.out).kept (HMF.out.under B6.out) hk)
           clear hk hm)
          refine hK.out _ _ (KEEP.out _ (K7.out)) (fun hHeld => ?_)
          clear hK K
          try simp only [Act.put, setA, setZ, setS]
          refine take_now 41 rfl ?_
          try simp only [Act.put, setA, setZ, setS]
          refine take_now 42 rfl ?_
          try simp only [Act.put, setA, setZ, setS]
          refine take_now 43 rfl ?_
          try simp only [Act.put, setA, setZ, setS]
          refine take_now 44 rfl ?_
          try simp only [Act.put, setA, setZ, setS]
          refine take_now 45 rfl ?_
          try simp only [Act.put, setA, setZ, setS]
          refine take_now 46 rfl ?_
          try simp only [Act.put, setA, setZ, setS]
          refine take_now 47 rfl ?_
          try simp only [Act.put, setA, setZ, setS]
          refine take_now 48 rfl ?_
          try simp only [Act.put, setA, setZ, setS]
          refine only_at 49 (by kernel_rfl) rfl (fun K hK => ?_)
          go_simp
          (go_at_call 76
           (with_reducible refine (recordI_any (l := []) HV7.out sh_nilI HI7.out).mono ?_)
           rintro e w7 ⟨he, hk, hm⟩
           rw [show keysOf ([] : List (Tx × Value)) = [] from rfl, HR2.out] at he
           subst he
           obtain ⟨V8, rfl⟩ : ∃ W, W = w7 := ⟨_, rfl⟩
           have K8 := Lib.hid (K7.out.trans (hk.mono (by simp)))
           have HM8 := Lib.hid (hm HR2.out)
           have HF8 := Lib.hid (HM7.out.keptM hk (by simpa using HFV.out))
           clear hk hm)
          refine hK.out _ _ (KEEP.out _ (K8.out)) (fun hHeld => ?_)
          clear hK K
          try simp only [Act.put, setA, setZ, setS]
          refine take_now 50 rfl ?_
          try simp only [Act.put, setA, setZ, setS]
          refine take_now 51 rfl ?_
          try simp only [Act.put, setA, setZ, setS]
          refine wpAnyH_done (by kernel_rfl) ?_ _
          go_wp2_with fail
          go_ret
          exact ⟨ret_bool HY.out.symm, (KeptM.of_below HV.out).trans K8.out, fun _ => ⟨HF8.out, HM8.out⟩⟩
        · have HD1 := Lib.hid hd1
          have HNO := Lib.hid (show headOk sp q = false by rw [HOK.out, hd1]; rfl)
          clear hd1
          refine wp_region_held_drew (S := (fun W => W.cell? ⟨w.heap.size, 0, none⟩ = some (.pointer (some ⟨S, 0, none⟩)) ∧ W.cell? ⟨S, 0, none⟩ = some (.pointer (some ⟨P, 0, none⟩)) ∧ W.cell? ⟨S, 6, none⟩ = some (.map (some f1)) ∧ W.cell? ⟨S, 7, none⟩ = some (.map (some v1)) ∧ W.cell? ⟨P, 2, none⟩ = some (.map (some n1)) ∧ W.cell? ⟨w.heap.size + 1, 0, none⟩ = some (.string (str q.name)) ∧ W.cell? ⟨w.heap.size + 1, 1, none⟩ = some (.slice fA q.funs.length fk) ∧ W.cell? ⟨w.heap.size + 1, 2, none⟩ = some (.slice iA q.ins.length ik) ∧ W.cell? ⟨w.heap.size + 1, 3, none⟩ = some (.slice oA q.outs.length ok))) (by kernel_rfl) ?_ (fun hHeld => ?_)
          · exact KEEP.out _ (KeptM.of_below (Below.refl _ _).drew)
          refine take_now 0 rfl ?_
          try simp only [Act.put, setA, setZ, setS]
          refine take_now 1 rfl ?_
          try simp only [Act.put, setA, setZ, setS]
          refine take_now 2 rfl ?_
          try simp only [Act.put, setA, setZ, setS]
          refine take_now 3 rfl ?_
          try simp only [Act.put, setA, setZ, setS]
          refine take_now 4 rfl ?_
          try simp only [Act.put, setA, setZ, setS]
          refine take_now 5 rfl ?_
          try simp only [Act.put, setA, setZ, setS]
          refine take_now 6 rfl ?_
          try simp only [Act.put, setA, setZ, setS]
          refine take_now 7 rfl ?_
          try simp only [Act.put, setA, setZ, setS]
          refine take_now 8 rfl ?_
          try simp only [Act.put, setA, setZ, setS]
          refine only_at 9 (by kernel_rfl) rfl (fun K hK => ?_)
          go_simp
          (go_at_call 73
           (with_reducible refine (knownN_any HMN.out.drew HSHN.out HNL.out).mono ?_)
           rintro e w7 ⟨he, hb7⟩
           rw [HKN.out, HA.out] at he
           subst he
           obtain ⟨V1, rfl⟩ : ∃ W, W = w7 := ⟨_, rfl⟩
           have B1 := Lib.hid ((Below.refl V.heap.size V).drew.trans hb7)
           clear hb7)
          refine hK.out _ _ (KEEP.out _ (KeptM.of_below B1.out)) (fun hHeld => ?_)
          clear hK K
          try simp only [Act.put, setA, setZ, setS]
          refine take_now 10 rfl ?_
          try simp only [Act.put, setA, setZ, setS]
          refine take_now 11 rfl ?_
          try simp only [Act.put, setA, setZ, setS]
          refine take_now 12 rfl ?_
          try simp only [Act.put, setA, setZ, setS]
          refine take_now 13 rfl ?_
          try simp only [Act.put, setA, setZ, setS]
          refine take_now 14 rfl ?_
          try simp only [Act.put, setA, setZ, setS]
          refine take_now 15 rfl ?_
          try simp only [Act.put, setA, setZ, setS]
          refine only_at 16 (by kernel_rfl) rfl (fun K hK => ?_)
          go_simp
          refine hK.out _ _ (KEEP.out _ (KeptM.of_below (B1.out.alloc B1.out.size _))) (fun hHeld => ?_)
          clear hK K
          try simp only [Act.put, setA, setZ, setS]
          have B2 := Lib.hid (B1.out.alloc B1.out.size (.cells #[.slice fA q.funs.length fk, .slice iA q.ins.length ik] 37))
          have BX2 := Lib.hid (heap_alloc_new V1 (.cells #[.slice fA q.funs.length fk, .slice iA q.ins.length ik] 37))
          generalize V1.alloc (.cells #[.slice fA q.funs.length fk, .slice iA q.ins.length ik] 37) = V2 at *
          refine only_at 17 (by kernel_rfl) rfl (fun K hK => ?_)
          go_simp
          (go_at_call 74
           (with_reducible refine (distinct_two BX2.out (HF.out.under B2.out) (HI.out.under B2.out) HL1.out).mono ?_)
           rintro e w7 ⟨he, hb7⟩
           rw [HB1.out] at he
           subst he
           obtain ⟨V3, rfl⟩ : ∃ W, W = w7 := ⟨_, rfl⟩
           have B3 := Lib.hid (B2.out.trans (hb7.mono B2.out.size))
           clear hb7)
          refine hK.out _ _ (KEEP.out _ (KeptM.of_below B3.out)) (fun hHeld => ?_)
          clear hK K
          try simp only [Act.put, setA, setZ, setS]
          refine take_now 18 rfl ?_
          try simp only [Act.put, setA, setZ, setS]
          refine take_now 19 rfl ?_
          try simp only [Act.put, setA, setZ, setS]
          refine take_now 20 rfl ?_
          try simp only [Act.put, setA, setZ, setS]
          refine take_now 21 rfl ?_
          try simp only [Act.put, setA, setZ, setS]
          refine only_at 22 (by kernel_rfl) rfl (fun K hK => ?_)
          go_simp
          refine hK.out _ _ (KEEP.out _ (KeptM.of_below (B3.out.alloc B3.out.size _))) (fun hHeld => ?_)
          clear hK K
          try simp only [Act.put, setA, setZ, setS]
          have B4 := Lib.hid (B3.out.alloc B3.out.size (.cells #[.slice oA q.outs.length ok] 37))
          have BX4 := Lib.hid (heap_alloc_new V3 (.cells #[.slice oA q.outs.length ok] 37))
          generalize V3.alloc (.cells #[.slice oA q.outs.length ok] 37) = V4 at *
          refine only_at 23 (by kernel_rfl) rfl (fun K hK => ?_)
          go_simp
          (go_at_call 74
           (with_reducible refine (distinct_one BX4.out (HO.out.under B4.out) HL2.out).mono ?_)
           rintro e w7 ⟨he, hb7⟩
           rw [HC1.out] at he
           subst he
           obtain ⟨V5, rfl⟩ : ∃ W, W = w7 := ⟨_, rfl⟩
           have B5 := Lib.hid (B4.out.trans (hb7.mono B4.out.size))
           clear hb7)
          refine hK.out _ _ (KEEP.out _ (KeptM.of_below B5.out)) (fun hHeld => ?_)
          clear hK K
          try simp only [Act.put, setA, setZ, setS]
          refine take_now 24 rfl ?_
          try simp only [Act.put, setA, setZ, setS]
          refine take_now 25 rfl ?_
          try simp only [Act.put, setA, setZ, setS]
          refine take_now 26 rfl ?_
          try simp only [Act.put, setA, setZ, setS]
          refine take_now 27 rfl ?_
          try simp only [Act.put, setA, setZ, setS]
          refine take_now 28 rfl ?_
          try simp only [Act.put, setA, setZ, setS]
          refine only_at 29 (by kernel_rfl) rfl (fun K hK => ?_)
          go_simp
          (go_at_call 75
           (with_reducible refine (HCF.out _ B5.out).mono ?_)
           rintro e w7 ⟨he, hb7⟩
           rw [HD1.out] at he
           subst he
           obtain ⟨V6, rfl⟩ : ∃ W, W = w7 := ⟨_, rfl⟩
           have B6 := Lib.hid (B5.out.trans (hb7.mono B5.out.size))
           clear hb7)
          refine hK.out _ _ (KEEP.out _ (KeptM.of_below B6.out)) (fun hHeld => ?_)
          clear hK K
          try simp only [Act.put, setA, setZ, setS]
          refine take_now 30 rfl ?_
          try simp only [Act.put, setA, setZ, setS]
          refine take_now 31 rfl ?_
          try simp only [Act.put, setA, setZ, setS]
          refine take_now 32 rfl ?_
          try simp only [Act.put, setA, setZ, setS]
          refine skip_now 33 rfl ?_
          try simp only [Act.put, setA, setZ, setS]
          refine skip_now 34 rfl ?_
          try simp only [Act.put, setA, setZ, setS]
          refine skip_now 35 rfl ?_
          try simp only [Act.put, setA, setZ, setS]
          refine skip_now 36 rfl ?_
          try simp only [Act.put, setA, setZ, setS]
          refine skip_now 37 rfl ?_
          try simp only [Act.put, setA, setZ, setS]
          refine skip_now 38 rfl ?_
          try simp only [Act.put, setA, setZ, setS]
          refine skip_now 39 rfl ?_
          try simp only [Act.put, setA, setZ, setS]
          refine skip_now 40 rfl ?_
          try simp only [Act.put, setA, setZ, setS]
          refine take_now 41 rfl ?_
          try simp only [Act.put, setA, setZ, setS]
          refine take_now 42 rfl ?_
          try simp only [Act.put, setA, setZ, setS]
          refine skip_now 43 rfl ?_
          try simp only [Act.put, setA, setZ, setS]
          refine skip_now 44 rfl ?_
          try simp only [Act.put, setA, setZ, setS]
          refine skip_now 45 rfl ?_
          try simp only [Act.put, setA, setZ, setS]
          refine skip_now 46 rfl ?_
          try simp only [Act.put, setA, setZ, setS]
          refine skip_now 47 rfl ?_
          try simp only [Act.put, setA, setZ, setS]
          refine skip_now 48 rfl ?_
          try simp only [Act.put, setA, setZ, setS]
          refine skip_now 49 rfl ?_
          try simp only [Act.put, setA, setZ, setS]
          refine take_now 50 rfl ?_
          try simp only [Act.put, setA, setZ, setS]
          refine take_now 51 rfl ?_
          try simp only [Act.put, setA, setZ, setS]
          refine wpAnyH_done (by kernel_rfl) ?_ _
          go_wp2_with fail
          go_ret
          exact head_no HNO.out ((KeptM.of_below HV.out).trans (KeptM.of_below B6.out))
  · have HA := Lib.hid ha
    have HNO := Lib.hid (show headOk sp q = false by rw [HOK.out, ha]; rfl)
    clear ha
    refine wp_region_held_drew (S := (fun W => W.cell? ⟨w.heap.size, 0, none⟩ = some (.pointer (some ⟨S, 0, none⟩)) ∧ W.cell? ⟨S, 0, none⟩ = some (.pointer (some ⟨P, 0, none⟩)) ∧ W.cell? ⟨S, 6, none⟩ = some (.map (some f1)) ∧ W.cell? ⟨S, 7, none⟩ = some (.map (some v1)) ∧ W.cell? ⟨P, 2, none⟩ = some (.map (some n1)) ∧ W.cell? ⟨w.heap.size + 1, 0, none⟩ = some (.string (str q.name)) ∧ W.cell? ⟨w.heap.size + 1, 1, none⟩ = some (.slice fA q.funs.length fk) ∧ W.cell? ⟨w.heap.size + 1, 2, none⟩ = some (.slice iA q.ins.length ik) ∧ W.cell? ⟨w.heap.size + 1, 3, none⟩ = some (.slice oA q.outs.length ok))) (by kernel_rfl) ?_ (fun hHeld => ?_)
    · exact KEEP.out _ (KeptM.of_below (Below.refl _ _).drew)
    refine take_now 0 rfl ?_
    try simp only [Act.put, setA, setZ, setS]
    refine take_now 1 rfl ?_
    try simp only [Act.put, setA, setZ, setS]
    refine take_now 2 rfl ?_
    try simp only [Act.put, setA, setZ, setS]
    refine take_now 3 rfl ?_
    try simp only [Act.put, setA, setZ, setS]
    refine take_now 4 rfl ?_
    try simp only [Act.put, setA, setZ, setS]
    refine take_now 5 rfl ?_
    try simp only [Act.put, setA, setZ, setS]
    refine take_now 6 rfl ?_
    try simp only [Act.put, setA, setZ, setS]
    refine take_now 7 rfl ?_
    try simp only [Act.put, setA, setZ, setS]
    refine take_now 8 rfl ?_
    try simp only [Act.put, setA, setZ, setS]
    refine only_at 9 (by kernel_rfl) rfl (fun K hK => ?_)
    go_simp
    (go_at_call 73
     (with_reducible refine (knownN_any HMN.out.drew HSHN.out HNL.out).mono ?_)
     rintro e w7 ⟨he, hb7⟩
     rw [HKN.out, HA.out] at he
     subst he
     obtain ⟨V1, rfl⟩ : ∃ W, W = w7 := ⟨_, rfl⟩
     have B1 := Lib.hid ((Below.refl V.heap.size V).drew.trans hb7)
     clear hb7)
    refine hK.out _ _ (KEEP.out _ (KeptM.of_below B1.out)) (fun hHeld => ?_)
    clear hK K
    try simp only [Act.put, setA, setZ, setS]
    refine take_now 10 rfl ?_
    try simp only [Act.put, setA, setZ, setS]
    refine take_now 11 rfl ?_
    try simp only [Act.put, setA, setZ, setS]
    refine skip_now 12 rfl ?_
    try simp only [Act.put, setA, setZ, setS]
    refine skip_now 13 rfl ?_
    try simp only [Act.put, setA, setZ, setS]
    refine skip_now 14 rfl ?_
    try simp only [Act.put, setA, setZ, setS]
    refine skip_now 15 rfl ?_
    try simp only [Act.put, setA, setZ, setS]
    refine skip_now 16 rfl ?_
    try simp only [Act.put, setA, setZ, setS]
    refine skip_now 17 rfl ?_
    try simp only [Act.put, setA, setZ, setS]
    refine take_now 18 rfl ?_
    try simp only [Act.put, setA, setZ, setS]
    refine take_now 19 rfl ?_
    try simp only [Act.put, setA, setZ, setS]
    refine skip_now 20 rfl ?_
    try simp only [Act.put, setA, setZ, setS]
    refine skip_now 21 rfl ?_
    try simp only [Act.put, setA, setZ, setS]
    refine skip_now 22 rfl ?_
    try simp only [Act.put, setA, setZ, setS]
    refine skip_now 23 rfl ?_
    try simp only [Act.put, setA, setZ, setS]
    refine take_now 24 rfl ?_
    try simp only [Act.put, setA, setZ, setS]
    refine take_now 25 rfl ?_
    try simp only [Act.put, setA, setZ, setS]
    refine skip_now 26 rfl ?_
    try simp only [Act.put, setA, setZ, setS]
    refine skip_now 27 rfl ?_
    try simp only [Act.put, setA, setZ, setS]
    refine skip_now 28 rfl ?_
    try simp only [Act.put, setA, setZ, setS]
    refine skip_now 29 rfl ?_
    try simp only [Act.put, setA, setZ, setS]
    refine skip_now 30 rfl ?_
    try simp only [Act.put, setA, setZ, setS]
    refine take_now 31 rfl ?_
    try simp only [Act.put, setA, setZ, setS]
    refine take_now 32 rfl ?_
    try simp only [Act.put, setA, setZ, setS]
    refine skip_now 33 rfl ?_
    try simp only [Act.put, setA, setZ, setS]
    refine skip_now 34 rfl ?_
    try simp only [Act.put, setA, setZ, setS]
    refine skip_now 35 rfl ?_
    try simp only [Act.put, setA, setZ, setS]
    refine skip_now 36 rfl ?_
    try simp only [Act.put, setA, setZ, setS]
    refine skip_now 37 rfl ?_
    try simp only [Act.put, setA, setZ, setS]
    refine skip_now 38 rfl ?_
    try simp only [Act.put, setA, setZ, setS]
    refine skip_now 39 rfl ?_
    try simp only [Act.put, setA, setZ, setS]
    refine skip_now 40 rfl ?_
    try simp only [Act.put, setA, setZ, setS]
    refine take_now 41 rfl ?_
    try simp only [Act.put, setA, setZ, setS]
    refine take_now 42 rfl ?_
    try simp only [Act.put, setA, setZ, setS]
    refine skip_now 43 rfl ?_
    try simp only [Act.put, setA, setZ, setS]
    refine skip_now 44 rfl ?_
    try simp only [Act.put, setA, setZ, setS]
    refine skip_now 45 rfl ?_
    try simp only [Act.put, setA, setZ, setS]
    refine skip_now 46 rfl ?_
    try simp only [Act.put, setA, setZ, setS]
    refine skip_now 47 rfl ?_
    try simp only [Act.put, setA, setZ, setS]
    refine skip_now 48 rfl ?_
    try simp only [Act.put, setA, setZ, setS]
    refine skip_now 49 rfl ?_
    try simp only [Act.put, setA, setZ, setS]
    refine take_now 50 rfl ?_
    try simp only [Act.put, setA, setZ, setS]
    refine take_now 51 rfl ?_
    try simp only [Act.put, setA, setZ, setS]
    refine wpAnyH_done (by kernel_rfl) ?_ _
    go_wp2_with fail
    go_ret
    exact head_no HNO.out ((KeptM.of_below HV.out).trans (KeptM.of_below B1.out))
end
end Go.Proofs.YtbpbnebcbjacdaaGreat
