import Derived.Test.YtdcjlihaldhhjaaGreatDoorKm28
set_option maxHeartbeats 4000000
set_option maxRecDepth 100000
namespace Go.Proofs.YtdcjlihaldhhjaaGreatDoor
open _root_.Go.Proofs.Tryz
open Go.RowKit
open Go.ChangeMaps Go.MapKept
open Go.Maps
def xL (w : World) (e : Ending) (w' : World) : Prop :=
 ∃ P e1 c1 n1 t1, e = .returned (.pointer (some ⟨P, 0, none⟩)) /\ aY w' P e1 c1 n1 t1 a6.new /\ Below w.heap.size w w' /\ w.heap.size <= e1 /\ w.heap.size <= c1 /\ w.heap.size <= n1 /\ w.heap.size <= t1 /\ w.heap.size <= P
theorem ue : a5 (aC []) gD = true := by decide
theorem Ca : ∀ p ∈ ([] : List (Tx × Value)), ShE p.2 := by simp
theorem AN {w V : World} {P e1 c1 n1 t1 : Nat} (hV : Below w.heap.size w V) (hb : V.heap[P]? = some (.cells #[.map (some e1), .map (some c1), .map (some n1), .map (some t1)] 112 (0, 0)))
  (he : aL V e1 []) (hc : aL V c1 []) (hn : aL V n1 []) (ht : aL V t1 []) (hd : e1 ≠ c1 /\ e1 ≠ n1 /\ e1 ≠ t1 /\ c1 ≠ n1 /\ c1 ≠ t1 /\ n1 ≠ t1)
  (hl : w.heap.size <= e1 /\ w.heap.size <= c1 /\ w.heap.size <= n1 /\ w.heap.size <= t1 /\ w.heap.size <= P) {V2 w' : World} (hV2 : Below V.heap.size V V2) {A : Option Addr} {m j : Nat} (hE : aG V2 (.slice A m j) gD)
  (hk : az [c1] V2 w') (hm : aL w' c1 ([] ++ bb (.agg #[.string ⟨#[]⟩, .slice A m j]) gD)) : xL w (.returned (.pointer (some ⟨P, 0, none⟩))) w' := by
 have h0 : aY V P e1 c1 n1 t1 ⟨[], [], [], []⟩ := ⟨hb, he, ⟨[], hc, rfl, by simp⟩, ⟨[], hn, rfl, by simp⟩, ht, hd⟩; have h2 := h0.under hV2; have hr : eL w' ([] ++ bb (.agg #[.string ⟨#[]⟩, .slice A m j]) gD) ([] ++ gD.map λ c => (c, gD)) := eL.snoc ⟨rfl, by simp⟩ ⟨_, A, m, j, rfl, hE.kept (hc.under hV2) hk⟩; refine ⟨P, e1, c1, n1, t1, rfl, h2.putC (hc.under hV2) hk hm hr, ?_, hl⟩; exact (hV.trans (hV2.mono hV.size)).trans (hk.below (by simpa using hl.2.1) (Nat.le_trans hV.size hV2.size))
theorem rG (w : World) : Calls prog 21 #[] w (xL w) := by
 have hmm := @run_makeMap prog; go_enter func21, ntmps21
 go_wp2_with fail
 clear hmm; generalize hV : ((((w.alloc (.map #[] 0)).alloc (.map #[] 0)).alloc (.map #[] 0)).alloc (.map #[] 0)).alloc (.cells #[.map (some w.heap.size), .map (some (w.heap.size + 1)), .map (some (w.heap.size + 1 + 1)), .map (some (w.heap.size + 1 + 1 + 1))] 112) = V; have a1 : Below w.heap.size w (w.alloc (.map #[] 0)) := (Below.refl _ w).alloc (Nat.le_refl _) _; have m1 := aL.made w; have m2 := aL.made (w.alloc (.map #[] 0)); have m3 := aL.made ((w.alloc (.map #[] 0)).alloc (.map #[] 0)); have m4 := aL.made (((w.alloc (.map #[] 0)).alloc (.map #[] 0)).alloc (.map #[] 0)); have m5 := heap_alloc_new ((((w.alloc (.map #[] 0)).alloc (.map #[] 0)).alloc (.map #[] 0)).alloc (.map #[] 0)) (.cells #[.map (some w.heap.size), .map (some (w.heap.size + 1)), .map (some (w.heap.size + 1 + 1)), .map (some (w.heap.size + 1 + 1 + 1))] 112); simp only [World.size_alloc] at m2 m3 m4 m5; have HV := zH (show Below w.heap.size w V by rw [<- hV]; exact ((((a1.alloc (by simp) _).alloc (by simp <;> omega) _).alloc (by simp <;> omega) _).alloc (by simp <;> omega) _))
 have al : ∀ (W : World) (o : Obj), Below W.heap.size W (W.alloc o) := λ W o => (Below.refl _ W).alloc (Nat.le_refl _) _; have H1 := zH (show aL V w.heap.size [] by rw [<- hV]; exact (((m1.under (al _ _)).under (al _ _)).under (al _ _)).under (al _ _)); have H2 := zH (show aL V (w.heap.size + 1) [] by rw [<- hV]; exact ((m2.under (al _ _)).under (al _ _)).under (al _ _)); have H3 := zH (show aL V (w.heap.size + 1 + 1) [] by rw [<- hV]; exact (m3.under (al _ _)).under (al _ _)); have H4 := zH (show aL V (w.heap.size + 1 + 1 + 1) [] by rw [<- hV]; exact m4.under (al _ _)); have H5 := zH (show V.heap[w.heap.size + 1 + 1 + 1 + 1]? = some (.cells #[.map (some w.heap.size), .map (some (w.heap.size + 1)), .map (some (w.heap.size + 1 + 1)), .map (some (w.heap.size + 1 + 1 + 1))] 112 (0, 0)) by rw [<- hV]; exact m5); clear hV m1 m2 m3 m4 m5 a1 al; have hlt := ar H5.o; obtain ⟨x0, x1, x2, x3⟩ := kE H5.o; refine wp_region_held_drew (S := (λ W => W.cell? ⟨w.heap.size + 1 + 1 + 1 + 1, 1, none⟩ = some (.map (some (w.heap.size + 1))))) zK ?_ (λ hHeld => ?_)
 . (try dsimp only); go_keep
 refine aa 0 ?_; refine aa 1 ?_; refine aa 2 ?_; refine aa 3 ?_; refine au 4 zK rfl (λ K hK => ?_); go_simp
 (go_at_call 53
  (with_reducible refine (ly _).mono ?_); rintro e w7 ⟨rfl, rfl⟩; have B1 := zH (((zB V).drew.alloc (by simp) iw)); have S1 := zH (uf V.drew); obtain ⟨V1, hV1⟩ : ∃ W, W = V.drew.alloc iw := ⟨_, rfl⟩; rw [<- hV1] at B1 S1 ⊢; clear hV1; obtain ⟨x0, x1, x2, x3⟩ := kE (ag B1.o H5.o))
 refine hK.out _ _ ?_ (λ hHeld => ?_)
 . (try dsimp only); go_keep
 clear hK K; try simp only [Act.put, aK, aI, aJ]
 refine aa 5 ?_; refine au 6 zK rfl (λ K hK => ?_); go_simp
 (go_at_call 53
  (with_reducible refine (ly _).mono ?_); rintro e w7 ⟨rfl, rfl⟩; have B2 := zH (B1.o.alloc B1.o.size iw); have S2 := zH (uf V1); have S3 := zH (S1.o.under ((Below.refl _ V1).alloc (Nat.le_refl _) iw)); obtain ⟨V2, hV2⟩ : ∃ W, W = V1.alloc iw := ⟨_, rfl⟩; rw [<- hV2] at B2 S2 S3 ⊢; clear hV2; obtain ⟨x0, x1, x2, x3⟩ := kE (ag B2.o H5.o))
 refine hK.out _ _ ?_ (λ hHeld => ?_)
 . (try dsimp only); go_keep
 clear hK K; try simp only [Act.put, aK, aI, aJ]
 refine au 7 zK rfl (λ K hK => ?_); go_simp
 (go_at_call 52
  (with_reducible refine (mr (H2.o.under B2.o) Ca S2.o).mono ?_); rintro e w7 ⟨he, hk, hm⟩; rw [ue] at he; subst he; obtain ⟨V3, rfl⟩ := zW w7; have HK := zH hk; have HM := zH (hm ue); have BX := zH (cK hk (by simp; omega) (ag B2.o H5.o)); obtain ⟨x0, x1, x2, x3⟩ := kE BX.o; clear hk hm)
 refine hK.out _ _ ?_ (λ hHeld => ?_)
 . (try dsimp only); go_keep
 clear hK K; try simp only [Act.put, aK, aI, aJ]
 refine wpAnyH_done zK ?_ _; go_wp2_with fail
 go_ret; exact AN HV.o H5.o H1.o H2.o H3.o H4.o zO zO B2.o S3.o HK.o HM.o
theorem nS {w : World} {g : Nat} {s : Tx} {T0 : TypeId} (h : w.heap[g]? = some (.cells #[.string (str s)] T0 (0, 0))) (hs : s.length <= maxLen) : aG w (.slice (some ⟨g, 0, none⟩) 1 1) [s] :=
 ⟨_, 1, rfl, by simp, by unfold maxLen; omega, λ i x hx => by
   match i with
   | 0 =>
     cases hx
     refine ⟨_, ⟨_, rfl, λ j u hu => ?_⟩, rfl, hs⟩
     have hj : j = 0 := (by have := (List.getElem?_eq_some_iff.1 hu).1; simp at this; exact this)
     subst hj; cases hu
     simpa [Addr.add] using mO h
   | i + 1 => simp at hx⟩
theorem bN (l : List Tx) : aC (bb eo l) = l := de _ _
theorem kp (v : Value) (a b : List Tx) : bb v a ++ bb v b = bb v (a ++ b) := by simp [bb]
def Ct (P e1 c1 n1 t1 : Nat) (s : a6) (q : fp) (w : World) (e : Ending) (w' : World) : Prop :=
 e = .returned (.bool (gB s q)) /\ az [e1, c1] w w' /\ (gB s q = true -> aY w' P e1 c1 n1 t1 (s.addEnum q))
section
variable {w w' : World} {P e1 c1 n1 t1 : Nat} {s : a6}
theorem aY.row (h : aY w P e1 c1 n1 t1 s) : w.cell? ⟨P, 0, none⟩ = some (.map (some e1)) /\ w.cell? ⟨P, 1, none⟩ = some (.map (some c1)) /\ w.cell? ⟨P, 2, none⟩ = some (.map (some n1)) /\ w.cell? ⟨P, 3, none⟩ = some (.map (some t1)) := kE h.box
theorem eA {b : Nat} {l : List (Tx × Value)} {g : Nat} {cs : Array Value} {T0 : TypeId} (hm : aL w b l) (hk : az [b] w w') (h : w.heap[g]? = some (.cells cs T0 (0, 0))) : w'.heap[g]? = some (.cells cs T0 (0, 0)) :=
 cK hk (by simpa using hm.notbox h) h
end
theorem ur {w0 : World} {L : List Value} {q : fp} (hL : cF w0 L q) {w : World} {P e1 c1 n1 t1 : Nat} {s : a6} (hS : aY w P e1 c1 n1 t1 s) (hb : Below w0.heap.size w0 w) :
  Calls prog 22 #[.pointer (some ⟨P, 0, none⟩), .agg L.toArray] w (Ct P e1 c1 n1 t1 s q w) := by
 obtain ⟨cv, rfl, hnl, hcs⟩ := hL; obtain ⟨A, m, j, rfl⟩ := aw.shape hcs; have HCS := zH (hcs.under hb); have HNL := zH hnl; have HS := zH hS; have hPl := ar hS.box; clear hcs hnl hS hb; go_enter func22, ntmps22
 go_wp2_with fail
 have hal : Below w.heap.size w (w.alloc (.cells #[.string (str q.name), .slice A m j] 70)) := (Below.refl _ w).alloc (Nat.le_refl _) _; have BX := zH (heap_alloc_new w (.cells #[.string (str q.name), .slice A m j] 70)); have HV := zH hal; generalize w.alloc (.cells #[.string (str q.name), .slice A m j] 70) = V at *; clear hal; have HSV := zH (HS.o.under HV.o); obtain ⟨x0, x1, _, _⟩ := HSV.o.row; obtain ⟨y0, y1⟩ := bM BX.o; have hVl := HV.o.size; refine wp_region_held_drew (S := (λ W => W.cell? ⟨P, 0, none⟩ = some (.map (some e1)) /\ W.cell? ⟨P, 1, none⟩ = some (.map (some c1)) /\ W.cell? ⟨w.heap.size, 0, none⟩ = some (.string (str q.name)) /\ W.cell? ⟨w.heap.size, 1, none⟩ = some (.slice A m j))) zK ?_ (λ hHeld => ?_)
 . (try dsimp only); go_keep
 refine aa 0 ?_; refine aa 1 ?_; refine aa 2 ?_; refine aa 3 ?_; refine aa 4 ?_; refine aa 5 ?_; refine aa 6 ?_; refine au 7 zK rfl (λ K hK => ?_); go_simp
 refine hK.out _ _ ?_ (λ hHeld => ?_)
 . (try dsimp only); go_keep
 clear hK K; try simp only [Act.put, aK, aI, aJ]
 have B1 := zH (zA V (.cells #[.string (str q.name)] 9)).drew; have NX := zH (show (V.alloc (.cells #[.string (str q.name)] 9)).drew.heap[V.heap.size]? = some (.cells #[.string (str q.name)] 9 (0, 0)) from heap_alloc_new V (.cells #[.string (str q.name)] 9)); generalize (V.alloc (.cells #[.string (str q.name)] 9)).drew = V1 at *; have HS1 := zH (HSV.o.under B1.o); cases hr : a5 s.enums [q.name]
 . have HR := zH hr; have HE := zH (show gB s q = false by rw [gB, hr]; rfl); clear hr; refine au 8 zK rfl (λ K hK => ?_); go_simp
   (go_at_call 54
    (with_reducible refine (cS HS1.o.me (dI _) (nS NX.o HNL.o)).mono ?_); rintro e w7 ⟨he, hk, _⟩; rw [bN, HR.o] at he; subst he; obtain ⟨V3, rfl⟩ := zW w7; have HK := zH hk; obtain ⟨x0, x1, _, _⟩ := kE (eA HS1.o.me hk HS1.o.box); obtain ⟨y0, y1⟩ := bM (eA HS1.o.me hk (ag B1.o BX.o)); clear hk)
   refine hK.out _ _ ?_ (λ hHeld => ?_)
   . (try dsimp only); go_keep
   clear hK K; try simp only [Act.put, aK, aI, aJ]
   refine aa 9 ?_; refine ah 10 ?_; refine ah 11 ?_; refine ah 12 ?_; refine ah 13 ?_; refine ah 14 ?_; refine ah 15 ?_; refine ah 16 ?_; refine ah 17 ?_; refine aa 18 ?_; refine aa 19 ?_; refine wpAnyH_done zK ?_ _; go_wp2_with fail
   go_ret; exact ⟨aj HE.o.symm, ((az.of_below HV.o).trans (az.of_below (B1.o))).trans (HK.o.mono (by simp)), λ h => by rw [HE.o] at h; cases h⟩
 . have HR := zH hr; have HE := zH (show gB s q = a5 s.conKeys q.cons by rw [gB, hr]; rfl); clear hr; refine au 8 zK rfl (λ K hK => ?_); go_simp
   (go_at_call 54
    (with_reducible refine (cS HS1.o.me (dI _) (nS NX.o HNL.o)).mono ?_); rintro e w7 ⟨he, hk, hm⟩; rw [bN, HR.o] at he; subst he; obtain ⟨V3, rfl⟩ := zW w7; have HK := zH hk; have HM := zH (hm (by rw [bN]; exact HR.o)); obtain ⟨x0, x1, _, _⟩ := kE (eA HS1.o.me hk HS1.o.box); have BX3 := zH (eA HS1.o.me hk (ag B1.o BX.o)); obtain ⟨y0, y1⟩ := bM BX3.o; clear hk hm)
   refine hK.out _ _ ?_ (λ hHeld => ?_)
   . (try dsimp only); go_keep
   clear hK K; try simp only [Act.put, aK, aI, aJ]
   have HS3 := zH (HS1.o.putE (l := s.enums ++ [q.name]) HK.o (by have := HM.o; rwa [show (.agg #[] : Value) = eo from rfl, kp] at this)); have HC3 := zH (((HCS.o.under HV.o).under B1.o).kept HS1.o.me HK.o); obtain ⟨lc, hmc, hrc⟩ := HS3.o.mc; have HMC := zH hmc; have HRC := zH hrc; clear hmc hrc; refine aa 9 ?_; refine aa 10 ?_; refine aa 11 ?_; refine aa 12 ?_; refine aa 13 ?_; refine aa 14 ?_; refine aa 15 ?_; refine aa 16 ?_; refine au 17 zK rfl (λ K hK => ?_); go_simp
   (go_at_call 52
    (with_reducible refine (mr HMC.o HRC.o.sh HC3.o).mono ?_); rintro e w7 ⟨he, hk, hm⟩; subst he; obtain ⟨V4, rfl⟩ := zW w7; have HK4 := zH hk; have HM4 := zH hm; obtain ⟨x0, x1, _, _⟩ := kE (eA HMC.o hk HS3.o.box); obtain ⟨y0, y1⟩ := bM (eA HMC.o hk BX3.o); clear hk hm)
   refine hK.out _ _ ?_ (λ hHeld => ?_)
   . (try dsimp only); go_keep
   clear hK K; try simp only [Act.put, aK, aI, aJ]
   refine aa 18 ?_; refine aa 19 ?_; refine wpAnyH_done zK ?_ _; go_wp2_with fail
   go_ret; have hkey : a5 (aC lc) q.cons = gB s q := (by rw [HE.o, HRC.o.1]; rfl); refine ⟨aj hkey, (((az.of_below HV.o).trans (az.of_below (B1.o))).trans (HK.o.mono (by simp))).trans (HK4.o.mono (by simp)), λ h => ?_⟩; exact HS3.o.putC HMC.o HK4.o (HM4.o (hkey.trans h)) ((HRC.o.kept HMC.o HK4.o).snoc ⟨_, _, _, _, rfl, HC3.o.kept HMC.o HK4.o⟩)
theorem fq {w : World} {N : Nat} {T0 : TypeId} {v0 v1 v2 v3 v4 v5 v6 v7 : Value} (h : w.heap[N]? = some (.cells #[v0, v1, v2, v3, v4, v5, v6, v7] T0 (0, 0))) :
  w.cell? ⟨N, 0, none⟩ = some v0 /\ w.cell? ⟨N, 1, none⟩ = some v1 /\ w.cell? ⟨N, 2, none⟩ = some v2 /\ w.cell? ⟨N, 3, none⟩ = some v3 /\ w.cell? ⟨N, 4, none⟩ = some v4 /\ w.cell? ⟨N, 5, none⟩ = some v5 /\ w.cell? ⟨N, 6, none⟩ = some v6 /\ w.cell? ⟨N, 7, none⟩ = some v7 := by simp [World.cell?, h]
theorem qx {X : Type} {l : List (Tx × X)} {s : Tx} {x : X} (h : mS l s = some x) : ∃ i : Nat, l[i]? = some (s, x) := by
 unfold mS at h; cases hf : l.find? (λ p => p.1 == s) with
 | none => rw [hf] at h; cases h
 | some p =>
   rw [hf] at h; cases h; have h1 := List.find?_some hf; obtain ⟨i, hi⟩ := List.getElem?_of_mem (List.mem_of_find?_eq_some hf); obtain ⟨a, b⟩ := p; simp only [beq_iff_eq] at h1; subst h1; exact ⟨i, hi⟩
theorem lX {X : Type} {l : List (Tx × X)} {s : Tx} (h : mS l s = none) : s ∉ l.map Prod.fst := by
 unfold mS at h; rw [Option.map_eq_none_iff, List.find?_eq_none] at h; intro hm; obtain ⟨p, hp, rfl⟩ := List.mem_map.1 hm; exact h p hp (by simp)
theorem mX {X Y : Type} {l : List (Tx × X)} {m : List (Tx × Y)} (h : l.map Prod.fst = m.map Prod.fst) {i : Nat} {s : Tx} {y : Y} (hi : m[i]? = some (s, y)) : ∃ x, l[i]? = some (s, x) := by
 have h1 : (l.map Prod.fst)[i]? = some s := (by rw [h, List.getElem?_map, hi]; rfl); rw [List.getElem?_map] at h1; cases hl : l[i]? with
 | none => rw [hl] at h1; cases h1
 | some p =>
   rw [hl] at h1; obtain ⟨a, b⟩ := p; cases h1; exact ⟨b, rfl⟩
theorem gF.find {l : List (Tx × Value)} {ns : List (Tx × bc)} (h : gF l ns) {s : Tx} {q : bc} (hg : mS ns s = some q) : ∃ v, (s, v) ∈ l /\ Cq v q := by
 obtain ⟨i, hi⟩ := qx hg; obtain ⟨v, hv⟩ := mX h.1 hi; exact ⟨v, List.mem_of_getElem? hv, h.2 i _ _ hv hi⟩
theorem eL.find {w : World} {l : List (Tx × Value)} {cs : List (Tx × List Tx)} (h : eL w l cs) {s : Tx} {q : List Tx} (hg : mS cs s = some q) : ∃ v, (s, v) ∈ l /\ qV w v q := by
 obtain ⟨i, hi⟩ := qx hg; obtain ⟨v, hv⟩ := mX h.1 hi; exact ⟨v, List.mem_of_getElem? hv, h.2 i _ _ hv hi⟩
structure du (w : World) (S P e c n t f v : Nat) (nd : Value × Value × Value × Value × Value) (s : eD) : Prop where
 prog : aY w P e c n t s.prog
 box : w.heap[S]? = some (.cells #[.pointer (some ⟨P, 0, none⟩), nd.1, nd.2.1, nd.2.2.1, nd.2.2.2.1, nd.2.2.2.2, .map (some f), .map (some v)] 120 (0, 0))
 mf : aL w f (bb eo s.funs)
 mv : ∃ l, aL w v l /\ aC l = s.vars /\ ∀ p ∈ l, ShI p.2
 nf : f ≠ e /\ f ≠ c /\ f ≠ n /\ f ≠ t
 nv : v ≠ e /\ v ≠ c /\ v ≠ n /\ v ≠ t /\ v ≠ f
theorem du.under {w w' : World} {S P e c n t f v : Nat} {nd : Value × Value × Value × Value × Value} {s : eD} (h : du w S P e c n t f v nd s) (hb : Below w.heap.size w w') : du w' S P e c n t f v nd s := by
 obtain ⟨l, h1, h2, h3⟩ := h.mv; exact ⟨h.prog.under hb, ag hb h.box, h.mf.under hb, ⟨l, h1.under hb, h2, h3⟩, h.nf, h.nv⟩
section
variable {S P e1 c1 n1 t1 f1 v1 : Nat} {nd : Value × Value × Value × Value × Value} {s : eD}
theorem rp {w : World} (h : du w S P e1 c1 n1 t1 f1 v1 nd s) {x : Tx} (hl : x.length <= maxLen) : Calls prog 198 #[.pointer (some ⟨S, 0, none⟩), .string (str x)] w (ax (jH s x) w) := by
 have HS := zH h; have HL := zH hl; obtain ⟨ln, hmn, hrn⟩ := h.prog.mn; have hPl := ar h.prog.box; have hSl := ar h.box; have HMN := zH hmn; cases hg : mS s.prog.nodes x with
 | none =>
   have hrun := hmn.look_no underlying110 (zw w) hl (by have := lX hg; rw [<- hrn.1] at this; exact this); have HQ := zH (show jH s x = s.funs.contains x by rw [jH, hg]; simp); obtain ⟨x0, x1, x2, x3⟩ := h.prog.row; obtain ⟨y0, y1, y2, y3, y4, y5, y6, y7⟩ := fq h.box; clear h hl hg hmn hrn; cases hc : s.funs.contains x
   . have HC := zH hc; clear hc; go_enter func198, ntmps198
     go_wp2_with (go_at_call 103
                  have hal : Below w.heap.size w (w.alloc (.cells #[.string ⟨#[]⟩, .slice none 0 0, .slice none 0 0, .slice none 0 0, .slice none 0 0] 34)) := (Below.refl _ w).alloc (Nat.le_refl _) _; (with_reducible refine (d9 (HS.o.under hal).mf (dI _) HL.o).mono ?_); rintro e w7 ⟨he, hb7⟩; rw [bN, HC.o] at he; subst he; have HB := zH (hal.trans (hb7.mono hal.size)); clear hal hb7)
     go_ret; exact ⟨aj (by rw [HQ.o, HC.o]), HB.o⟩
   . have HC := zH hc; clear hc; go_enter func198, ntmps198
     go_wp2_with (go_at_call 103
                  have hal : Below w.heap.size w (w.alloc (.cells #[.string ⟨#[]⟩, .slice none 0 0, .slice none 0 0, .slice none 0 0, .slice none 0 0] 34)) := (Below.refl _ w).alloc (Nat.le_refl _) _; (with_reducible refine (d9 (HS.o.under hal).mf (dI _) HL.o).mono ?_); rintro e w7 ⟨he, hb7⟩; rw [bN, HC.o] at he; subst he; obtain ⟨z0, z1, z2, z3, z4⟩ := aN (ag hb7 (heap_alloc_new w (.cells #[.string ⟨#[]⟩, .slice none 0 0, .slice none 0 0, .slice none 0 0, .slice none 0 0] 34))); have HB := zH (hal.trans (hb7.mono hal.size)); clear hal hb7)
     go_ret; exact ⟨aj (by rw [HQ.o, HC.o]), HB.o⟩
 | some q =>
   obtain ⟨v, hv, sN, A1, c1', A2, c2', A3, c3', A4, m4, c4', rfl⟩ := hrn.find hg; have hrun := hmn.look_yes underlying110 hv; have HQ := zH (show jH s x = (s.funs.contains x || q.funs.isEmpty) by rw [jH, hg]); obtain ⟨x0, x1, x2, x3⟩ := h.prog.row; obtain ⟨y0, y1, y2, y3, y4, y5, y6, y7⟩ := fq h.box; clear h hl hg hmn hrn hv; cases hc : s.funs.contains x
   . have HC := zH hc; clear hc; cases hq : q.funs with
     | nil =>
       have HE := zH (show q.funs.isEmpty = true by rw [hq]; rfl); have hd : ((q.funs.length : Int) == 0) = true := (by rw [hq]; rfl); clear hq; go_enter func198, ntmps198
       go_wp2_with (go_at_call 103
                    have hal : Below w.heap.size w (w.alloc (.cells #[.string sN, .slice A1 q.funs.length c1', .slice A2 q.ins.length c2', .slice A3 q.outs.length c3', .slice A4 m4 c4'] 34)) := (Below.refl _ w).alloc (Nat.le_refl _) _; (with_reducible refine (d9 (HS.o.under hal).mf (dI _) HL.o).mono ?_); rintro e w7 ⟨he, hb7⟩; rw [bN, HC.o] at he; subst he; obtain ⟨z0, z1, z2, z3, z4⟩ := aN (ag hb7 (heap_alloc_new w (.cells #[.string sN, .slice A1 q.funs.length c1', .slice A2 q.ins.length c2', .slice A3 q.outs.length c3', .slice A4 m4 c4'] 34))); have HB := zH (hal.trans (hb7.mono hal.size)); clear hal hb7)
       go_ret; exact ⟨aj (by rw [HQ.o, HC.o, HE.o]; rfl), HB.o⟩
     | cons a b =>
       have HE := zH (show q.funs.isEmpty = false by rw [hq]; rfl); have hd : ((q.funs.length : Int) == 0) = false := (by rw [hq]; simp; omega); clear hq; go_enter func198, ntmps198
       go_wp2_with (go_at_call 103
                    have hal : Below w.heap.size w (w.alloc (.cells #[.string sN, .slice A1 q.funs.length c1', .slice A2 q.ins.length c2', .slice A3 q.outs.length c3', .slice A4 m4 c4'] 34)) := (Below.refl _ w).alloc (Nat.le_refl _) _; (with_reducible refine (d9 (HS.o.under hal).mf (dI _) HL.o).mono ?_); rintro e w7 ⟨he, hb7⟩; rw [bN, HC.o] at he; subst he; obtain ⟨z0, z1, z2, z3, z4⟩ := aN (ag hb7 (heap_alloc_new w (.cells #[.string sN, .slice A1 q.funs.length c1', .slice A2 q.ins.length c2', .slice A3 q.outs.length c3', .slice A4 m4 c4'] 34))); have HB := zH (hal.trans (hb7.mono hal.size)); clear hal hb7)
       go_ret; exact ⟨aj (by rw [HQ.o, HC.o, HE.o]; rfl), HB.o⟩
   . have HC := zH hc; clear hc; go_enter func198, ntmps198
     go_wp2_with (go_at_call 103
                  have hal : Below w.heap.size w (w.alloc (.cells #[.string sN, .slice A1 q.funs.length c1', .slice A2 q.ins.length c2', .slice A3 q.outs.length c3', .slice A4 m4 c4'] 34)) := (Below.refl _ w).alloc (Nat.le_refl _) _; (with_reducible refine (d9 (HS.o.under hal).mf (dI _) HL.o).mono ?_); rintro e w7 ⟨he, hb7⟩; rw [bN, HC.o] at he; subst he; obtain ⟨z0, z1, z2, z3, z4⟩ := aN (ag hb7 (heap_alloc_new w (.cells #[.string sN, .slice A1 q.funs.length c1', .slice A2 q.ins.length c2', .slice A3 q.outs.length c3', .slice A4 m4 c4'] 34))); have HB := zH (hal.trans (hb7.mono hal.size)); clear hal hb7)
     go_ret; exact ⟨aj (by rw [HQ.o, HC.o]; rfl), HB.o⟩
end
section
variable {S P e1 c1 n1 t1 f1 v1 : Nat} {nd : Value × Value × Value × Value × Value} {s : eD}
theorem lr {w : World} (h : du w S P e1 c1 n1 t1 f1 v1 nd s) {va : Value} {l : List Tx} (ha : aG w va l) (hne : l ≠ []) : Calls prog 178 #[.pointer (some ⟨S, 0, none⟩), va] w (ax (dN s l) w) := by
 have HS := zH h; have HA := zH ha; obtain ⟨lc, hmc, hrc⟩ := h.prog.mc; have hPl := ar h.prog.box; have hSl := ar h.box; obtain ⟨x0, x1, x2, x3⟩ := h.prog.row; obtain ⟨y0, y1, y2, y3, y4, y5, y6, y7⟩ := fq h.box; obtain ⟨A, ca, rfl, hc, hm, he⟩ := ha; have hll : l.length <= 9223372036854775807 := (by unfold maxLen at hm; omega); obtain ⟨c, r, rfl⟩ := List.exists_cons_of_ne_nil hne; obtain ⟨L0, hE0, rfl, hcl⟩ := he 0 c rfl; obtain ⟨a, rfl, hab, _, q0⟩ := ez hE0; simp only [Nat.zero_mul] at q0; rw [add_zero] at q0; have hpos : 0 < (c :: r).length := (by simp); cases hg : mS s.prog.cons c with
 | none =>
   have HQ := zH (show dN s (c :: r) = false by simp only [dN, hg]); have hrun := λ (W : World) (hW : Below w.heap.size w W) => (hmc.under hW).look_no underlying109 (D6 W) hcl (by have := lX hg; rw [<- hrc.1] at this; exact this); have HRUN := zH hrun
   have KEEP := zH (show ∀ W, Below w.heap.size w W -> W.cell? ⟨S, 0, none⟩ = some (.pointer (some ⟨P, 0, none⟩)) /\ W.cell? ⟨P, 1, none⟩ = some (.map (some c1)) /\ W.cell? a = some (.string (str c)) /\ (Instr.lookup 109 (.map (some c1)) (.string (str c)) true).run prog W = .ok (.tuple #[.agg #[.string ⟨#[]⟩, .slice none 0 0], .bool false]) W from
    λ W hW => ⟨(hW.cell (p := ⟨S, 0, none⟩) hSl).trans y0, (hW.cell (p := ⟨P, 1, none⟩) hPl).trans x1, (hW.cell (p := a) hab).trans q0, HRUN.o W hW⟩)
   generalize (c :: r).length = nn at *; clear h hc hm he hE0 hne hg hmc hrc hrun hcl; go_enter func178, ntmps178
   go_wp2_with fail
   refine wp_region_held_drew (S := (λ W => W.cell? ⟨S, 0, none⟩ = some (.pointer (some ⟨P, 0, none⟩)) /\ W.cell? ⟨P, 1, none⟩ = some (.map (some c1)) /\ W.cell? a = some (.string (str c)) /\ (Instr.lookup 109 (.map (some c1)) (.string (str c)) true).run prog W = .ok (.tuple #[.agg #[.string ⟨#[]⟩, .slice none 0 0], .bool false]) W)) zK ?_ (λ hHeld => ?_)
   . exact KEEP.o _ (Below.refl _ _).drew
   refine aa 0 ?_; refine aa 1 ?_; refine aa 2 ?_; refine aa 3 ?_; refine aa 4 ?_; refine aa 5 ?_; refine aa 6 ?_; refine aa 7 ?_; refine aa 8 ?_; refine aa 9 ?_; refine aa 10 ?_; refine aa 11 ?_; refine aa 12 ?_; refine aa 13 ?_; refine au 14 zK rfl (λ K hK => ?_); go_simp
   refine hK.out _ _ (KEEP.o _ ?_) (λ hHeld => ?_)
   . (repeat (first | exact Below.refl _ _ | exact Below.refl _ _ | refine Below.drew ?_ | refine Below.alloc ?_ (by simp) _ | refine Below.setCell ?_ (by simp) _))
   clear hK K; try simp only [Act.put, aK, aI, aJ]
   refine au 15 zK rfl (λ K hK => ?_); go_simp
   refine hK.out _ _ (KEEP.o _ ?_) (λ hHeld => ?_)
   . (repeat (first | exact Below.refl _ _ | exact Below.refl _ _ | refine Below.drew ?_ | refine Below.alloc ?_ (by simp) _ | refine Below.setCell ?_ (by simp) _))
   clear hK K; try simp only [Act.put, aK, aI, aJ]
   refine aa 16 ?_; refine wpAnyH_done zK ?_ _; go_wp2_with fail
   go_ret; exact ⟨aj HQ.o.symm, ((Below.refl _ w).alloc (Nat.le_refl _) _).drew⟩
 | some cs =>
   have HQ := zH (show dN s (c :: r) = ((c :: r) == cs) by simp only [dN, hg]); obtain ⟨v, hv, sE, AE, mE, jE, rfl, hse⟩ := hrc.find hg; have HEQ := zH (oZ HA.o hse); have hrun := λ (W : World) (hW : Below w.heap.size w W) => (hmc.under hW).look_yes underlying109 hv; have HRUN := zH hrun
   have KEEP := zH (show ∀ W, Below w.heap.size w W -> W.cell? ⟨S, 0, none⟩ = some (.pointer (some ⟨P, 0, none⟩)) /\ W.cell? ⟨P, 1, none⟩ = some (.map (some c1)) /\ W.cell? a = some (.string (str c)) /\ (Instr.lookup 109 (.map (some c1)) (.string (str c)) true).run prog W = .ok (.tuple #[.agg #[.string sE, .slice AE mE jE], .bool true]) W from
    λ W hW => ⟨(hW.cell (p := ⟨S, 0, none⟩) hSl).trans y0, (hW.cell (p := ⟨P, 1, none⟩) hPl).trans x1, (hW.cell (p := a) hab).trans q0, HRUN.o W hW⟩)
   generalize (c :: r).length = nn at *; clear h hc hm he hE0 hne hg hmc hrc hrun hcl hv hse; go_enter func178, ntmps178
   go_wp2_with fail
   refine wp_region_held_drew (S := (λ W => W.cell? ⟨S, 0, none⟩ = some (.pointer (some ⟨P, 0, none⟩)) /\ W.cell? ⟨P, 1, none⟩ = some (.map (some c1)) /\ W.cell? a = some (.string (str c)) /\ (Instr.lookup 109 (.map (some c1)) (.string (str c)) true).run prog W = .ok (.tuple #[.agg #[.string sE, .slice AE mE jE], .bool true]) W)) zK ?_ (λ hHeld => ?_)
   . exact KEEP.o _ (Below.refl _ _).drew
   refine aa 0 ?_; refine aa 1 ?_; refine aa 2 ?_; refine aa 3 ?_; refine aa 4 ?_; refine aa 5 ?_; refine aa 6 ?_; refine aa 7 ?_; refine aa 8 ?_; refine aa 9 ?_; refine aa 10 ?_; refine aa 11 ?_; refine aa 12 ?_; refine aa 13 ?_; refine au 14 zK rfl (λ K hK => ?_); go_simp
   refine hK.out _ _ (KEEP.o _ ?_) (λ hHeld => ?_)
   . (repeat (first | exact Below.refl _ _ | exact Below.refl _ _ | refine Below.drew ?_ | refine Below.alloc ?_ (by simp) _ | refine Below.setCell ?_ (by simp) _))
   clear hK K; try simp only [Act.put, aK, aI, aJ]
   refine au 15 zK rfl (λ K hK => ?_); go_simp
   refine hK.out _ _ (KEEP.o _ ?_) (λ hHeld => ?_)
   . (repeat (first | exact Below.refl _ _ | exact Below.refl _ _ | refine Below.drew ?_ | refine Below.alloc ?_ (by simp) _ | refine Below.setCell ?_ (by simp) _))
   clear hK K; try simp only [Act.put, aK, aI, aJ]
   refine aa 16 ?_; refine wpAnyH_done zK ?_ _
   go_wp2_with (go_at_call 181
                have hal : Below w.heap.size w (w.alloc (.cells #[.string sE, .slice AE mE jE] 70)).drew := ((Below.refl _ w).alloc (Nat.le_refl _) _).drew; (with_reducible refine (HEQ.o _ hal).mono ?_); rintro e w7 ⟨rfl, hb7⟩; have HB := zH (hal.trans (hb7.mono hal.size)); clear hal hb7)
   go_ret; exact ⟨aj HQ.o.symm, HB.o⟩
end
end Go.Proofs.YtdcjlihaldhhjaaGreatDoor
