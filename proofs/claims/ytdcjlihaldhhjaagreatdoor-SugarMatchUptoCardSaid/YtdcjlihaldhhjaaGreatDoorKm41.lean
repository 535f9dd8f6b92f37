import Derived.Test.YtdcjlihaldhhjaaGreatDoorKm40
set_option maxHeartbeats 16000000
set_option maxRecDepth 100000
namespace Go.Proofs.YtdcjlihaldhhjaaGreatDoor
open _root_.Go.Proofs.Tryz
open Go.RowKit
open Go.ChangeMaps Go.MapKept
open Go.Maps
def xK (made : Bool) (n : bc) : Prop := (n.funs ++ n.ins).length <= 2097152 /\ n.outs.length <= 2097152 /\ ∀ i ∈ n.items, cQ made i = true /\ (bp i).length <= 2097152 /\ i.states.length <= 2097152
theorem xV {s : a6} {n : bc} (h : dF s n = false) : cj s n = .inr (-1) := by simp [cj, h]
theorem uI {s : a6} {n : bc} (h : dF s n = true) {b : Int} (hi : ft 0 s n.ins n.items = .inr b) : cj s n = .inr b := by simp [cj, h, hi]
theorem xU {s s' : a6} {n : bc} {vars : List Tx} (h : dF s n = true) (hi : ft 0 s n.ins n.items = .inl (s', vars)) (ho : (n.outs.all (n.items.flatMap bp).contains) = false) : cj s n = .inr (-1) := by
 have ho' : ¬ (n.outs.all λ o => (n.items.flatMap bp).contains o) = true := (by rw [Bool.not_eq_true]; exact ho); rw [cj, if_pos h, hi]; simp only; rw [if_neg ho']
theorem xT {s s' : a6} {n : bc} {vars : List Tx} (h : dF s n = true) (hi : ft 0 s n.ins n.items = .inl (s', vars)) (ho : (n.outs.all (n.items.flatMap bp).contains) = true) {b : Int} (hu : iE ⟨s', n.funs, vars⟩ 0 n.items = some b) : cj s n = .inr b := by
 have ho' : (n.outs.all λ o => (n.items.flatMap bp).contains o) = true := ho; rw [cj, if_pos h, hi]; simp only; rw [if_pos ho', hu]
theorem CK {s s' : a6} {n : bc} {vars : List Tx} (h : dF s n = true) (hi : ft 0 s n.ins n.items = .inl (s', vars)) (ho : (n.outs.all (n.items.flatMap bp).contains) = true) (hu : iE ⟨s', n.funs, vars⟩ 0 n.items = none) : cj s n = .inl { s' with nodes := s'.nodes ++ [(n.name, n)] } := by
 have ho' : (n.outs.all λ o => (n.items.flatMap bp).contains o) = true := ho; rw [cj, if_pos h, hi]; simp only; rw [if_pos ho', hu]
theorem mC (b : Int) (s : a6) (vars : List Tx) (i : cC) (r : List cC) : ft b s vars (i :: r) = if dt s vars i = true then ft (b + 1) (s.addItem i) (vars ++ bp i) r else .inr b := rfl
theorem nO (s : eD) (b : Int) (i : cC) (r : List cC) : iE s b (i :: r) = if fg s i = true then iE s (b + 1) r else some b := rfl
theorem oM (n : Int) (l : List Tx) : aC (bb (.int .i64 n) l) = l := de _ _
theorem zZ (n : Int) (l : List Tx) : ∀ p ∈ bb (.int .i64 n) l, ShI p.2 := by
 intro p hp; obtain ⟨_, _, rfl⟩ := List.mem_map.1 hp; exact ⟨n, rfl⟩
theorem Er {l m : List (Tx × Value)} (h1 : ∀ p ∈ l, ShI p.2) (h2 : ∀ p ∈ m, ShI p.2) : ∀ p ∈ l ++ m, ShI p.2 := by
 intro p hp; rcases List.mem_append.1 hp with hp | hp
 . exact h1 p hp
 . exact h2 p hp
theorem sm.ins (l : List Tx) : sm (bb (.int .i64 (-1)) l) [] := by
 refine ⟨λ p hp => ?_, λ o ho => absurd ho (List.not_mem_nil)⟩; obtain ⟨_, _, rfl⟩ := List.mem_map.1 hp; exact ⟨-1, rfl, by simp⟩
theorem sm.snoc {l : List (Tx × Value)} {D names : List Tx} (h : sm l D) {b : Int} (hb : 0 <= b) (hn : ((aC l) ++ names).Nodup) : sm (l ++ bb (.int .i64 b) names) (D ++ names) := by
 refine ⟨λ p hp => ?_, λ o ho => ?_⟩
 . rcases List.mem_append.1 hp with hp | hp
   . obtain ⟨n, h1, h2⟩ := h.1 p hp; refine ⟨n, h1, h2.trans ?_⟩; rw [List.mem_append, not_or]; refine ⟨λ h => ⟨h, λ hm => ?_⟩, λ h => h.1⟩; exact (List.nodup_append.1 hn).2.2 p.1 (List.mem_map_of_mem hp) p.1 hm rfl
   . obtain ⟨s, hs, rfl⟩ := List.mem_map.1 hp; refine ⟨b, rfl, ?_⟩; constructor
     . intro e; omega
     . intro e; exact absurd (List.mem_append_right _ hs) e
 . rw [List.map_append, List.mem_append]; rcases List.mem_append.1 ho with ho | ho
   . exact .inl (h.2 o ho)
   . exact .inr (by rw [show (bb (.int .i64 b) names).map Prod.fst = names from de _ _]; exact ho)
theorem aL.nodup {w : World} {b : Nat} {l : List (Tx × Value)} (h : aL w b l) : (aC l).Nodup := by
 obtain ⟨_, _, _, _, h, _⟩ := h; exact h
theorem az.cut {M M' : List Nat} {w V w' : World} (hk : az M V w') (hb : Below w.heap.size w V) (hM : ∀ x ∈ M, x ∈ M' ∨ w.heap.size <= x) : az M' w w' := by
 refine ⟨hk.os.trans hb.os, hk.tape.trans hb.tape, hk.output.trans hb.output, Nat.le_trans hb.size hk.size, λ k hlt hm => ?_⟩; have h2 : k ∉ M := λ h => by
  rcases hM k h with h | h
  . exact hm h
  . omega
 exact (hk.block k (Nat.lt_of_lt_of_le hlt hb.size) h2).trans (hb.block k hlt)
def px (P e1 c1 n1 t1 : Nat) (s : a6) (n : bc) (w : World) (e : Ending) (w' : World) : Prop :=
 (match cj s n with
  | .inr b => e = .returned (.tuple #[.int .i64 b, .bool false])
  | .inl s' => e = .returned (.tuple #[.int .i64 0, .bool true]) /\ aY w' P e1 c1 n1 t1 s') /\ az [n1, t1] w w'
theorem nt {P e1 c1 n1 t1 : Nat} {s : a6} {n : bc} {w w' : World} {b : Int} (h : cj s n = .inr b) (hk : az [n1, t1] w w') : px P e1 c1 n1 t1 s n w (.returned (.tuple #[.int .i64 b, .bool false])) w' :=
 ⟨by rw [h], hk⟩
theorem AL {P e1 c1 n1 t1 : Nat} {s s' : a6} {n : bc} {w w' : World} (h : cj s n = .inl s') (hs : aY w' P e1 c1 n1 t1 s') (hk : az [n1, t1] w w') : px P e1 c1 n1 t1 s n w (.returned (.tuple #[.int .i64 0, .bool true])) w' :=
 ⟨by rw [h]; exact ⟨rfl, hs⟩, hk⟩
def iC (w : World) (M : List Nat) : Prop := ∀ b ∈ M, ∃ l, aL w b l
theorem iC.two {w : World} {a b : Nat} {l m : List (Tx × Value)} (h1 : aL w a l) (h2 : aL w b m) : iC w [a, b] := by
 intro x hx; simp only [List.mem_cons, List.not_mem_nil, or_false] at hx; rcases hx with rfl | rfl
 . exact ⟨_, h1⟩
 . exact ⟨_, h2⟩
theorem iC.box {w w' : World} {M : List Nat} (hM : iC w M) (hk : az M w w') {g : Nat} {cs : Array Value} {T0 : TypeId} (h : w.heap[g]? = some (.cells cs T0 (0, 0))) : w'.heap[g]? = some (.cells cs T0 (0, 0)) :=
 cK hk (λ hg => by obtain ⟨l, hl⟩ := hM g hg; exact hl.notbox h rfl) h
theorem iC.strs {w w' : World} {M : List Nat} (hM : iC w M) (hk : az M w w') {v : Value} {names : List Tx} (ha : aG w v names) : aG w' v names := by
 obtain ⟨A, c, rfl, h1, h2, h3⟩ := ha; refine ⟨A, c, rfl, h1, h2, λ i x hx => ?_⟩; obtain ⟨L, ⟨a, ea, hc⟩, hR⟩ := h3 i x hx; refine ⟨L, ⟨a, ea, λ j u hu => ?_⟩, hR⟩; have h0 := hc j u hu; rw [hk.cell (World.block_lt_of_cell? w _ h0) (λ hg => by obtain ⟨l, hl⟩ := hM _ hg; exact hl.notcell h0 rfl)]; exact h0
theorem aY.others {w w' : World} {P e c n t : Nat} {s : a6} {M : List Nat} (h : aY w P e c n t s) (hM : iC w M) (hk : az M w w') (hf : e ∉ M /\ c ∉ M /\ n ∉ M /\ t ∉ M) : aY w' P e c n t s := by
 obtain ⟨h1, h2, h3, h4⟩ := hf; obtain ⟨lc, hc, hr⟩ := h.mc; obtain ⟨ln, hn, hq⟩ := h.mn; exact ⟨hM.box hk h.box, h.me.keptM hk h1, ⟨lc, hc.keptM hk h2, hr.1, λ i a b ha hb => by obtain ⟨s, A, m, j, e, hs⟩ := hr.2 i a b ha hb; exact ⟨s, A, m, j, e, hM.strs hk hs⟩⟩, ⟨ln, hn.keptM hk h3, hq⟩, h.mt.keptM hk h4, h.nd⟩
theorem gF.snoc {l : List (Tx × Value)} {ns : List (Tx × bc)} (h : gF l ns) {s : Tx} {v : Value} {q : bc} (hv : Cq v q) : gF (l ++ bb v [s]) (ns ++ [(s, q)]) := by
 have hlen : l.length = ns.length := (by have := congrArg List.length h.1; simpa [aC] using this); refine ⟨by rw [dE, h.1, List.map_append]; rfl, λ i a b ha hb => ?_⟩; by_cases hi : i < l.length
 . rw [List.getElem?_append_left hi] at ha; rw [List.getElem?_append_left zO] at hb; exact h.2 i a b ha hb
 . rw [List.getElem?_append_right zO] at ha; rw [List.getElem?_append_right zO] at hb; have h1 := List.mem_of_getElem? ha; have h2 := List.mem_of_getElem? hb; obtain ⟨x, _, rfl⟩ := List.mem_map.1 h1; rw [List.mem_singleton] at h2; subst h2; exact hv
def eF (sp : a6) (n : bc) (k : Nat) (s : a6) (lv : List (Tx × Value)) : Prop :=
 ft 0 sp n.ins n.items = ft k s (aC lv) (n.items.drop k) /\ s.nodes = sp.nodes /\ (∀ p ∈ lv, ShI p.2) /\ sm lv ((n.items.take k).flatMap bp)
theorem eF.zero (sp : a6) (n : bc) : eF sp n 0 sp (bb (.int .i64 (-1)) n.ins) := ⟨by rw [oM]; rfl, rfl, zZ _ _, by simpa using sm.ins n.ins⟩
theorem eF.succ {sp s : a6} {n : bc} {k : Nat} {lv : List (Tx × Value)} (h : eF sp n k s lv) {i : cC} (hi : n.items[k]? = some i) (hok : dt s (aC lv) i = true) (hnd : (aC (lv ++ bb (.int .i64 k) (bp i))).Nodup) :
  eF sp n (k + 1) (s.addItem i) (lv ++ bb (.int .i64 k) (bp i)) := by
 obtain ⟨h1, h2, h3, h4⟩ := h; rw [dE, oM] at hnd; refine ⟨?_, h2, Er h3 (zZ _ _), ?_⟩
 . rw [h1, cx hi, mC, if_pos hok, dE, oM]; rfl
 . rw [br hi, List.flatMap_append]; have := h4.snoc (b := k) zO hnd; simpa using this
theorem eF.no {sp s : a6} {n : bc} {k : Nat} {lv : List (Tx × Value)} (h : eF sp n k s lv) {i : cC} (hi : n.items[k]? = some i) (hok : dt s (aC lv) i = false) : ft 0 sp n.ins n.items = .inr k := by
 rw [h.1, cx hi, mC, if_neg (by rw [hok]; simp)]
theorem eF.done {sp s : a6} {n : bc} {k : Nat} {lv : List (Tx × Value)} (h : eF sp n k s lv) (hk : k = n.items.length) : ft 0 sp n.ins n.items = .inl (s, aC lv) /\ sm lv (n.items.flatMap bp) := by
 subst hk; obtain ⟨h1, _, _, h4⟩ := h; rw [List.take_length] at h4; exact ⟨by rw [h1, List.drop_length]; rfl, h4⟩
section
variable {P e1 c1 n1 t1 : Nat} {sp : a6}
theorem uo {made : Bool} {w0 : World} {L : List Value} {n : bc} (hL : cz w0 L n) (hfit : xK made n) {w : World} (hb : Below w0.heap.size w0 w) (hS : aY w P e1 c1 n1 t1 sp) (hn1 : w0.heap.size <= n1) (ht1 : w0.heap.size <= t1) :
  Calls prog 24 #[.pointer (some ⟨P, 0, none⟩), .agg L.toArray] w (px P e1 c1 n1 t1 sp n w) := by
 have hmm := @run_makeMap prog; obtain ⟨hf1, hf2, hf3⟩ := hfit; have HF1 := zH hf1; have HF2 := zH hf2; have HF3 := zH hf3; have HB := zH hb; have HS := zH hS; have hsz := hb.size; obtain ⟨fv, iv, ov, xv, rfl, hnl, hfu, hin, hou, hit⟩ := hL; have HNL := zH hnl; have HFU := zH hfu; have HIN := zH hin; have HOU := zH hou; obtain ⟨fA, fk, rfl, q1, q2, q3⟩ := hfu; obtain ⟨iA, ik, rfl, q4, q5, q6⟩ := hin; obtain ⟨oA, ok, rfl, q7, q8, q9⟩ := hou; obtain ⟨xA, xk, rfl, hxc, hxm, hxe⟩ := hit; have HXE := zH hxe; have hxl : n.items.length <= 9223372036854775807 := (by have h : n.items.length <= xk := hxc; unfold maxLen at hxm; omega); clear hf1 hf2 hf3 hb hS hnl hxc hxm hxe q1 q2 q3 q4 q5 q6 q7 q8 q9; go_enter func24, ntmps24
 go_wp2_with fail
 clear hmm; generalize hV : (((w.alloc (.cells #[.string (str n.name), .slice fA n.funs.length fk, .slice iA n.ins.length ik, .slice oA n.outs.length ok, .slice xA n.items.length xk] 34)).alloc (.map #[] 0)).alloc (.map #[] 0)).alloc (.cells #[.pointer (some ⟨P, 0, none⟩), .string (str n.name), .slice fA n.funs.length fk, .slice iA n.ins.length ik, .slice oA n.outs.length ok, .slice xA n.items.length xk, .map (some (w.heap.size + 1)), .map (some (w.heap.size + 1 + 1))] 120) = V; have al : ∀ (W : World) (o : Obj), Below W.heap.size W (W.alloc o) := λ W o => (Below.refl _ W).alloc (Nat.le_refl _) _; have a1 := al w (.cells #[.string (str n.name), .slice fA n.funs.length fk, .slice iA n.ins.length ik, .slice oA n.outs.length ok, .slice xA n.items.length xk] 34); have m2 := aL.made (w.alloc (.cells #[.string (str n.name), .slice fA n.funs.length fk, .slice iA n.ins.length ik, .slice oA n.outs.length ok, .slice xA n.items.length xk] 34)); have m3 := aL.made ((w.alloc (.cells #[.string (str n.name), .slice fA n.funs.length fk, .slice iA n.ins.length ik, .slice oA n.outs.length ok, .slice xA n.items.length xk] 34)).alloc (.map #[] 0)); have m4 := heap_alloc_new (((w.alloc (.cells #[.string (str n.name), .slice fA n.funs.length fk, .slice iA n.ins.length ik, .slice oA n.outs.length ok, .slice xA n.items.length xk] 34)).alloc (.map #[] 0)).alloc (.map #[] 0)) (.cells #[.pointer (some ⟨P, 0, none⟩), .string (str n.name), .slice fA n.funs.length fk, .slice iA n.ins.length ik, .slice oA n.outs.length ok, .slice xA n.items.length xk, .map (some (w.heap.size + 1)), .map (some (w.heap.size + 1 + 1))] 120); have m1 := heap_alloc_new w (.cells #[.string (str n.name), .slice fA n.funs.length fk, .slice iA n.ins.length ik, .slice oA n.outs.length ok, .slice xA n.items.length xk] 34); simp only [World.size_alloc] at m2 m3 m4; have HV := zH (show Below w.heap.size w V by rw [<- hV]; exact ((a1.alloc (by simp) _).alloc (by simp <;> omega) _).alloc (by simp <;> omega) _)
 have H1 := zH (show aL V (w.heap.size + 1) [] by rw [<- hV]; exact (m2.under (al _ _)).under (al _ _)); have H2 := zH (show aL V (w.heap.size + 1 + 1) [] by rw [<- hV]; exact m3.under (al _ _)); have BS := zH (show V.heap[w.heap.size + 1 + 1 + 1]? = some (.cells #[.pointer (some ⟨P, 0, none⟩), .string (str n.name), .slice fA n.funs.length fk, .slice iA n.ins.length ik, .slice oA n.outs.length ok, .slice xA n.items.length xk, .map (some (w.heap.size + 1)), .map (some (w.heap.size + 1 + 1))] 120 (0, 0)) by rw [<- hV]; exact m4); have BN := zH (show V.heap[w.heap.size]? = some (.cells #[.string (str n.name), .slice fA n.funs.length fk, .slice iA n.ins.length ik, .slice oA n.outs.length ok, .slice xA n.items.length xk] 34 (0, 0)) by rw [<- hV]; exact aQ (aQ (aQ m1))); clear hV m1 m2 m3 m4 a1 al; have HSV := zH (HS.o.under HV.o); have hle1 := HS.o.me.lt; have hlc1 : c1 < w.heap.size := (by obtain ⟨_, h, _⟩ := HS.o.mc; exact h.lt); have hln1 : n1 < w.heap.size := (by obtain ⟨_, h, _⟩ := HS.o.mn; exact h.lt); have hlt1 := HS.o.mt.lt; generalize hS0 : w.heap.size + 1 + 1 + 1 = S at *; generalize hv0 : w.heap.size + 1 + 1 = v1 at *; generalize hf0 : w.heap.size + 1 = f1 at *; have hlf : w.heap.size <= f1 := zO; have hlv : w.heap.size <= v1 := zO; have hfv : f1 ≠ v1 := zO; have HFV := zH hfv; have HX1 := zH hS0; have HX2 := zH hv0; have HX3 := zH hf0; have HCUT1 := zH (show ∀ x ∈ [f1, v1], x ∈ [n1, t1] ∨ w.heap.size <= x by intro x hx; simp only [List.mem_cons, List.not_mem_nil, or_false] at hx; rcases hx with rfl | rfl <;> (right; omega))
 have HCUT2 := zH (show ∀ x ∈ [f1, v1, t1, n1], x ∈ [n1, t1] ∨ w.heap.size <= x by
  intro x hx; simp only [List.mem_cons, List.not_mem_nil, or_false] at hx ⊢; rcases hx with rfl | rfl | rfl | rfl
  . right; omega
  . right; omega
  . left; right; rfl
  . left; left; rfl)
 have HNV := zH (show v1 ≠ e1 /\ v1 ≠ c1 /\ v1 ≠ n1 /\ v1 ≠ t1 by omega); have HNF := zH (show f1 ≠ e1 /\ f1 ≠ c1 /\ f1 ≠ n1 /\ f1 ≠ t1 by omega); have HOLD := zH (show e1 ∉ [f1, v1] /\ c1 ∉ [f1, v1] /\ n1 ∉ [f1, v1] /\ t1 ∉ [f1, v1] by simp; omega); have HBV := zH (HB.o.trans (HV.o.mono hsz)); have hv1w : w0.heap.size <= v1 := zO; have hf1w : w0.heap.size <= f1 := zO; clear hS0 hv0 hf0 hfv; cases hhd : dF sp n
 . have HHD := zH hhd; clear hhd
   go_wp2_with (go_at_call 55
                (with_reducible refine (mL HSV.o BS.o (HFU.o.under HBV.o) (HIN.o.under HBV.o) (HOU.o.under HBV.o) HNL.o H1.o H2.o HFV.o HF1.o HF2.o).mono ?_); rintro e w7 ⟨he, hk, _⟩; rw [HHD.o] at he; subst he; have HK7 := zH (hk.cut HV.o HCUT1.o); clear hk)
   go_ret2
   exact nt (xV HHD.o) HK7.o
 . have HHD := zH hhd; clear hhd
   go_wp2_with (go_at_call 55
                (with_reducible refine (mL HSV.o BS.o (HFU.o.under HBV.o) (HIN.o.under HBV.o) (HOU.o.under HBV.o) HNL.o H1.o H2.o HFV.o HF1.o HF2.o).mono ?_); rintro e w7 ⟨he, hk, hm⟩; rw [HHD.o] at he; subst he; obtain ⟨V1, rfl⟩ := zW w7; have MI := iC.two H1.o H2.o; have HK1 := zH hk; have HMF1 := zH (hm HHD.o).1; have HMV1 := zH (hm HHD.o).2; have HS1 := zH (HSV.o.others MI hk HOLD.o); have BS1 := zH (MI.box hk BS.o); have BN1 := zH (MI.box hk BN.o); have HB1 := zH (HBV.o.trans (hk.below (B := w0.heap.size) (by intro x hx; simp only [List.mem_cons, List.not_mem_nil, or_false] at hx; rcases hx with rfl | rfl <;> omega) HBV.o.size))
                obtain ⟨nb0, nb1, nb2, nb3, nb4⟩ := aN BN1.o; clear hk hm MI)
   have MI1 := zH (iC.two HS1.o.mt HMV1.o); clear nb0 nb1 nb2 nb3; go_loopg [23] n.items.length (λ g v wr => ∃ (k : Nat) (s : a6) (lv : List (Tx × Value)), k + g = n.items.length /\ v = .int .i64 k /\ eF sp n k s lv /\ aY wr P e1 c1 n1 t1 s /\ aL wr v1 lv /\ az [t1, v1] V1 wr)
   case atStart => exact ⟨0, sp, _, by omega, rfl, eF.zero sp n, HS1.o, HMV1.o, az.refl _ _⟩
   case round =>
    obtain ⟨wq, rfl⟩ := zW wr; obtain ⟨k, s, lv, hkg, rfl, hto, hsq, hmq, hkq⟩ := hrel; have HK := zH hkg; have HTO := zH hto; have HSQ := zH hsq; have HMQ := zH hmq; have HKQ := zH hkq; have BSQ := zH (MI1.o.box hkq BS1.o); have BNQ := zH (MI1.o.box hkq BN1.o); have HBQ := zH (HB1.o.trans (hkq.below (B := w0.heap.size) (by intro x hx; simp only [List.mem_cons, List.not_mem_nil, or_false] at hx; rcases hx with rfl | rfl <;> omega) HB1.o.size))
    have hkl : k <= n.items.length := zO; clear hkg hto hsq hmq hkq nb4; by_cases hlt : k < n.items.length
    . obtain ⟨i, hi⟩ := zG hlt; have HI := zH hi; obtain ⟨_, hi2, hi3⟩ := HF3.o i (List.mem_of_getElem? hi); obtain ⟨Li, hEI, hIi⟩ := HXE.o k i hi; have HIT := zH hIi; obtain ⟨A0, n0, k0, o1, s2, o3, A4, n4, k4, A5, n5, k5, A6, n6, k6, rfl⟩ := hIi.shape; obtain ⟨a, ea, ha, haa, d0, d1, d2, d3, d4, d5, d6⟩ := ll (hEI.under HBQ.o); subst ea; have hal := zH (zA wq (.cells #[.slice A0 n0 k0, .int .i64 o1, .string s2, .int .i64 o3, .slice A4 n4 k4, .slice A5 n5 k5, .slice A6 n6 k6] 31)); have HBZ := zH (HBQ.o.trans (hal.o.mono HBQ.o.size)); have HI2 := zH hi2; have HI3 := zH hi3; have BSZ := zH (ag hal.o BSQ.o); have HSZ := zH (HSQ.o.under hal.o); have HMZ := zH (HMQ.o.under hal.o); have HADD := zH (uq HIT.o HI2.o HI3.o HBZ.o HSZ.o ht1 hv1w HNV.o BSZ.o HMZ.o HTO.o.2.2.1 (k : Int)); clear hi hEI hIi hi2 hi3; cases hok : dt s (aC lv) i
      . have HOK := zH hok; clear hok
        go_wp2_with (go_at_call 56
                     (with_reducible refine HADD.o.mono ?_); rintro e w9 ⟨he, hk9, _⟩; rw [HOK.o] at he; subst he; have HK9 := zH (((HKQ.o.mono (M' := [f1, v1, t1, n1]) (by simp)).trans (az.of_below hal.o)).trans (hk9.mono (by simp))); clear hk9)
        go_ret2
        exact nt (uI HHD.o (HTO.o.no HI.o HOK.o)) (((HK1.o.mono (by simp)).trans HK9.o).cut HV.o HCUT2.o)
      . have HOK := zH hok; clear hok
        go_wp2_with (go_at_call 56
                     (with_reducible refine HADD.o.mono ?_); rintro e w9 ⟨he, hk9, hs9⟩; rw [HOK.o] at he; subst he; have HK9 := zH ((HKQ.o.trans (az.of_below hal.o)).trans hk9); have HS9 := zH (hs9 HOK.o); clear hk9 hs9)
        go_roundg (n.items.length - (k + 1))
        case measure => have := HK.o; omega
        case rel => exact ⟨k + 1, _, _, by omega, by go_num, HTO.o.succ HI.o HOK.o HS9.o.2.nodup, HS9.o.1, HS9.o.2, HK9.o⟩
    . have hke : k = n.items.length := by omega
      obtain ⟨hit1, hval⟩ := HTO.o.done hke; have HIT1 := zH hit1; have HVAL := zH hval; have HND := zH HTO.o.2.1; have HMFQ := zH (HMF1.o.keptM HKQ.o (by simp only [List.mem_cons, List.not_mem_nil, or_false, not_or]; exact ⟨HNF.o.2.2.2, HFV.o⟩)); have HSHQ := zH HTO.o.2.2.1; clear hke hit1 hval; have HOUQ := zH (HOU.o.under HBQ.o); have HKV := zH ((HK1.o.mono (M' := [f1, v1, t1, n1]) (by simp)).trans (HKQ.o.mono (by simp))); cases hou : n.outs.all (n.items.flatMap bp).contains
      . have HO := zH hou; clear hou
        go_wp2_with (go_at_call 57
                     (with_reducible refine (iH BSQ.o HMQ.o HVAL.o HOUQ.o).mono ?_); rintro e w9 ⟨he, hb9⟩; rw [HO.o] at he; subst he; have HK9 := zH (HKV.o.trans (az.of_below hb9)); clear hb9)
        go_ret2
        exact nt (xU HHD.o HIT1.o HO.o) (HK9.o.cut HV.o HCUT2.o)
      . have HO := zH hou; clear hou
        go_wp2_with (go_at_call 57
                     (with_reducible refine (iH BSQ.o HMQ.o HVAL.o HOUQ.o).mono ?_); rintro e w9 ⟨he, hb9⟩; rw [HO.o] at he; subst he; obtain ⟨V2, rfl⟩ := zW w9; have HK2 := zH (HKV.o.trans (az.of_below hb9)); have HS2 := zH (HSQ.o.under hb9); have HM2 := zH (HMQ.o.under hb9); have HMF2 := zH (HMFQ.o.under hb9); have BS2 := zH (ag hb9 BSQ.o); have BN2 := zH (ag hb9 BNQ.o); have HB2 := zH (HBQ.o.trans (hb9.mono HBQ.o.size)); obtain ⟨nb0, nb1, nb2, nb3, nb4⟩ := aN BN2.o; clear hb9)
        have HNS := zH (show du V2 S P e1 c1 n1 t1 f1 v1 (.string (str n.name), .slice fA n.funs.length fk, .slice iA n.ins.length ik, .slice oA n.outs.length ok, .slice xA n.items.length xk) ⟨s, n.funs, aC lv⟩ from
         ⟨HS2.o, BS2.o, HMF2.o, ⟨lv, HM2.o, rfl, HSHQ.o⟩, HNF.o, ⟨HNV.o.1, HNV.o.2.1, HNV.o.2.2.1, HNV.o.2.2.2, λ e => HFV.o e.symm⟩⟩)
        generalize hns : (⟨s, n.funs, aC lv⟩ : eD) = nsc at HNS; have HNSC := zH hns; clear hns nb0 nb1 nb2 nb3; go_loopg [41] n.items.length (λ g v wr => ∃ j : Nat, j + g = n.items.length /\ v = .int .i64 j /\ iE nsc 0 n.items = iE nsc j (n.items.drop j) /\ Below V2.heap.size V2 wr)
        case atStart => exact ⟨0, by omega, rfl, rfl, Below.refl _ _⟩
        case round =>
         obtain ⟨wz, rfl⟩ := zW wr; obtain ⟨j, hjg, rfl, hus, hbw⟩ := hrel; have HJ := zH hjg; have HUS := zH hus; have HWZ := zH hbw; have HBW := zH (HB2.o.trans (hbw.mono HB2.o.size)); have hjl : j <= n.items.length := zO; clear hjg hus hbw nb4; by_cases hlt2 : j < n.items.length
         . obtain ⟨i, hi⟩ := zG hlt2; have HDR := zH (cx hi); obtain ⟨hi1, _⟩ := HF3.o i (List.mem_of_getElem? hi); have HI1 := zH hi1; obtain ⟨Li, hEI, hIi⟩ := HXE.o j i hi; have HIT := zH (hIi.under HB2.o); obtain ⟨A0, n0, k0, o1, s2, o3, A4, n4, k4, A5, n5, k5, A6, n6, k6, rfl⟩ := hIi.shape; obtain ⟨a, ea, ha, haa, d0, d1, d2, d3, d4, d5, d6⟩ := ll (hEI.under HBW.o); subst ea; have hal := zH (zA wz (.cells #[.slice A0 n0 k0, .int .i64 o1, .string s2, .int .i64 o3, .slice A4 n4 k4, .slice A5 n5 k5, .slice A6 n6 k6] 31)); have HUZ := zH (HWZ.o.trans (hal.o.mono HWZ.o.size)); have HUSE := zH (zF HNS.o HIT.o HI1.o _ HUZ.o); clear hi hEI hIi hi1; cases hok : fg nsc i
           . have HOK := zH hok; have HNO := zH (show iE ⟨s, n.funs, aC lv⟩ 0 n.items = some (j : Int) by rw [HNSC.o, HUS.o, HDR.o, nO, if_neg (by rw [hok]; simp)]); clear hok
             go_wp2_with (go_at_call 58
                          (with_reducible refine HUSE.o.mono ?_); rintro e w9 ⟨he, hb9⟩; rw [HOK.o] at he; subst he; have HK9 := zH ((HK2.o.trans (az.of_below HUZ.o)).trans (az.of_below hb9)); clear hb9)
             go_ret2
             exact nt (xT HHD.o HIT1.o HO.o HNO.o) (HK9.o.cut HV.o HCUT2.o)
           . have HOK := zH hok; have HNX := zH (show iE nsc 0 n.items = iE nsc (j + 1 : Nat) (n.items.drop (j + 1)) by rw [HUS.o, HDR.o, nO, if_pos hok]; rfl); clear hok
             go_wp2_with (go_at_call 58
                          (with_reducible refine HUSE.o.mono ?_); rintro e w9 ⟨he, hb9⟩; rw [HOK.o] at he; subst he; have HB9 := zH (HUZ.o.trans (hb9.mono HUZ.o.size)); clear hb9)
             go_roundg (n.items.length - (j + 1))
             case measure => have := HJ.o; omega
             case rel => exact ⟨j + 1, by omega, by go_num, HNX.o, HB9.o⟩
         . have hje : j = n.items.length := by omega
           have HNO := zH (show iE ⟨s, n.funs, aC lv⟩ 0 n.items = none by rw [HNSC.o, HUS.o, hje, List.drop_length]; rfl); have HSW := zH (HS2.o.under HWZ.o); have BNW := zH (ag HWZ.o BN2.o); obtain ⟨_, _, x2, _⟩ := HSW.o.row; obtain ⟨nb0, nb1, nb2, nb3, nb4⟩ := aN BNW.o; have hPl := ar HSW.o.box; have hNl := ar BNW.o; obtain ⟨ln, hmn, hrn⟩ := HSW.o.mn; have HMN := zH hmn; have HRN := zH hrn
           have HROK := zH (show a5 (aC ln) [n.name] = true by
            have h1 := HHD.o; rw [dF, Bool.and_eq_true] at h1; have h2 : aC ln = sp.nodeKeys := (by rw [hrn.1, HND.o]; rfl); rw [cV, h2, h1.1]; rfl)
           clear hje hmn hrn; go_wp2_with fail
           refine wp_region_held_drew (S := (λ W => W.cell? ⟨P, 2, none⟩ = some (.map (some n1)) /\ W.cell? ⟨w.heap.size, 0, none⟩ = some (.string (str n.name)) /\ W.cell? ⟨w.heap.size, 1, none⟩ = some (.slice fA n.funs.length fk) /\ W.cell? ⟨w.heap.size, 2, none⟩ = some (.slice iA n.ins.length ik) /\ W.cell? ⟨w.heap.size, 3, none⟩ = some (.slice oA n.outs.length ok) /\ W.cell? ⟨w.heap.size, 4, none⟩ = some (.slice xA n.items.length xk))) zK ?_ (λ hHeld => ?_)
           . (try dsimp only); go_keep
           refine aa 0 ?_; refine aa 1 ?_; refine aa 2 ?_; refine aa 3 ?_; refine aa 4 ?_; refine aa 5 ?_; refine aa 6 ?_; refine au 7 zK rfl (λ K hK => ?_); go_simp
           refine hK.out _ _ ?_ (λ hHeld => ?_)
           . (try dsimp only); go_keep
           clear hK K; try simp only [Act.put, aK, aI, aJ]
           have B1 := zH (zA wz (.cells #[.string (str n.name)] 9)).drew; have NX := zH (show (wz.alloc (.cells #[.string (str n.name)] 9)).drew.heap[wz.heap.size]? = some (.cells #[.string (str n.name)] 9 (0, 0)) from heap_alloc_new wz (.cells #[.string (str n.name)] 9)); generalize (wz.alloc (.cells #[.string (str n.name)] 9)).drew = Y at *; refine au 8 zK rfl (λ K hK => ?_); go_simp
           (go_at_call 59
            (with_reducible refine (sX (HMN.o.under B1.o) HRN.o.sh (nS NX.o HNL.o)).mono ?_); rintro e w9 ⟨he, hk9, hm9⟩; rw [HROK.o] at he; subst he; obtain ⟨V9, rfl⟩ := zW w9; have HK9 := zH (((HK2.o.trans (az.of_below HWZ.o)).trans (az.of_below B1.o)).trans (hk9.mono (by simp))); have HS9 := zH ((HSW.o.under B1.o).putN (HMN.o.under B1.o) hk9 (hm9 HROK.o) (HRN.o.snoc ⟨_, fA, fk, iA, ik, oA, ok, xA, _, xk, rfl⟩)); obtain ⟨_, _, x2, _⟩ := HS9.o.row; obtain ⟨nb0, nb1, nb2, nb3, nb4⟩ := aN (eA (HMN.o.under B1.o) hk9 (ag B1.o BNW.o)); clear hk9 hm9)
           refine hK.out _ _ ?_ (λ hHeld => ?_)
           . (try dsimp only); go_keep
           clear hK K; try simp only [Act.put, aK, aI, aJ]
           refine wpAnyH_done zK ?_ _; go_wp2_with fail
           go_ret2
           exact AL (CK HHD.o HIT1.o HO.o HNO.o) HS9.o (HK9.o.cut HV.o HCUT2.o)
end
end Go.Proofs.YtdcjlihaldhhjaaGreatDoor
