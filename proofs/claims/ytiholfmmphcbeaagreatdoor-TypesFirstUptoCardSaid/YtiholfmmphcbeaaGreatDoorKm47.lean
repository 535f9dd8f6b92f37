import Derived.IntWalk
import Derived.Test.YtiholfmmphcbeaaGreatDoorKm46
set_option maxHeartbeats 8000000
set_option maxRecDepth 100000
namespace Go.Proofs.YtiholfmmphcbeaaGreatDoor
open _root_.Go.Proofs.Tryz
open Go.RowKit
def yX (b : Bool) (w : World) (e : Ending) (w' : World) : Prop := (∃ n : Int, e = .returned (.int .i64 n) /\ decide (0 <= n) = b) /\ Below w.heap.size w w'
theorem lU {X : Type} {l : List X} {k : Nat} {x : X} (h : l[k]? = some x) : l.drop k = x :: l.drop (k + 1) := bw h
theorem vT {w0 : World} {va : Value} {ks : List Ex} {f : Ex -> Bool} (ha : ak w0 (bM w0) va ks) {g : FuncId} {cap : Array Value} (eg : ∀ (args : Array Value) (W : World), (callFunc g args).run prog W = .ok (.enter g args) W)
  (hf : ∀ x ∈ ks, ∀ L, bM w0 L x -> ∀ w, Below w0.heap.size w0 w -> Calls prog g (#[.agg L.toArray] ++ cap) w (ar (f x) w)) :
  ∀ w, Below w0.heap.size w0 w -> Calls prog 99 #[va, .func (.func g) #[] cap] w (yX (ks.any f) w) := by
 intro w hw; obtain ⟨A, ca, rfl, hca, hma, hea⟩ := ha; have hla : ks.length <= 9223372036854775807 := (by unfold maxLen at hma; omega); have HW0 := zH hw; have hsz0 := hw.size; clear hw hca hma; go_enter func99, ntmps99
 go_wp2_with fail
 go_loopg [8] ks.length (λ g v wr => ∃ k : Nat, k + g = ks.length /\ v = .int .i64 k /\ ks.any f = (ks.drop k).any f /\ Below w.heap.size w wr)
 case atStart => exact ⟨0, by omega, rfl, rfl, Below.refl _ _⟩
 case round =>
  obtain ⟨k, hkg, rfl, hto, hbw⟩ := hrel; have HK := zH hkg; have HW := zH hbw; have HT := zH hto; have hszw := hbw.size; have hkl : k <= ks.length := zO; clear hkg hbw hto; by_cases hlt : k < ks.length
  . obtain ⟨y, hy⟩ := zG hlt; obtain ⟨L, hEM, hxl⟩ := hea k y hy; have HF := zH (hf y (List.mem_of_getElem? hy) L hxl); have HB0 := zH (HW0.o.trans (HW.o.mono hsz0)); have HD := zH (show (ks.drop k).any f = (f y || (ks.drop (k + 1)).any f) by rw [lU hy, List.any_cons]); obtain ⟨o1, s1, n1, A1, m1, k1, A2, m2, k2, rfl⟩ := hxl.shape; obtain ⟨a, rfl, hab, haa, d0, d1, d2, d3, d4⟩ := eh (hEM.under HB0.o); clear hEM hea hf hy hxl; cases hfx : f y
    . have HFX := zH hfx; rw [hfx] at HF; clear hfx; go_wp2_with (go_at_fn g; refine (HF.o _ HB0.o).mono ?_; rintro e w1 ⟨rfl, hb1⟩)
      go_roundg (ks.length - (k + 1))
      case measure => have := HK.o; omega
      case rel => exact ⟨k + 1, by omega, by go_num, by rw [HT.o, HD.o, HFX.o]; rfl, HW.o.trans (hb1.mono zO)⟩
    . have HFX := zH hfx; rw [hfx] at HF; clear hfx; go_wp2_with (go_at_fn g; refine (HF.o _ HB0.o).mono ?_; rintro e w1 ⟨rfl, hb1⟩)
      go_ret; exact ⟨⟨_, rfl, by rw [HT.o, HD.o, HFX.o]; simp⟩, HW.o.trans (hb1.mono zO)⟩
  . have hke : k = ks.length := by omega
    have HKE := zH hke; clear hke; go_wp2_with fail
    go_ret; exact ⟨⟨_, rfl, by rw [HT.o, List.drop_of_length_le (by rw [HKE.o]; exact Nat.le_refl _)]; rfl⟩, HW.o⟩
theorem qI {w0 : World} {va : Value} {ks : List Ex} {f : Ex -> Bool} (ha : ak w0 (bM w0) va ks) {g : FuncId} {cap : Array Value} (eg : ∀ (args : Array Value) (W : World), (callFunc g args).run prog W = .ok (.enter g args) W)
  (hf : ∀ x ∈ ks, ∀ L, bM w0 L x -> ∀ w, Below w0.heap.size w0 w -> Calls prog g (#[.agg L.toArray] ++ cap) w (ar (f x) w)) :
  ∀ w, Below w0.heap.size w0 w -> Calls prog 55 #[va, .func (.func g) #[] cap] w (ar (ks.any f) w) := by
 intro w hw; have H := zH (vT ha eg hf w hw); obtain ⟨A, ca, rfl, _⟩ := ha; clear hf hw; go_enter func55, ntmps55
 go_wp2_with (go_at_call 99; refine H.o.mono ?_; rintro e w1 ⟨⟨n, rfl, hn⟩, hb1⟩; have HN := zH hn; clear hn)
 go_ret; exact ⟨ah HN.o, hb1⟩
theorem qp (l : List Ex) : hH l = l.any dN := by
 induction l with
 | nil => rw [hH]; rfl
 | cons x r ih => rw [hH, List.any_cons, ih]
theorem tV : ∀ x : Ex, ∀ (w0 : World) (L : List Value), bM w0 L x -> ∀ w, Below w0.heap.size w0 w -> Calls prog 28 #[.agg L.toArray] w (ar (dN x) w) := by
 refine Ex.ind λ op nm m cs ks ih => ?_; intro w0 L hx w hb; obtain ⟨cv, kk, rfl, _, _, _, hcs, hkk⟩ := hx.open_; obtain ⟨Ac, ncs, cc, rfl⟩ := ak.shape hcs; obtain ⟨Ak, nks, ck, rfl⟩ := ak.shape hkk; have hal := zA w (.cells #[.int .i64 op, .string (str nm), .int .i64 m, .slice Ac ncs cc, .slice Ak nks ck] 81); have HAL := zH hal; have HC := zH (qI (f := dN) hkk (g := 28) (cap := #[]) (λ args W => by kernel_rfl) (λ x hxk L hL w hw => ih x hxk w0 L hL w hw) _ (hb.trans (hal.mono hb.size))); have HQ := zH (show dN (.mk op nm m cs ks) = (op == 13 || ks.any dN) by rw [dN, qp]); obtain ⟨p0, p1, p2, p3, p4⟩ := aW (heap_alloc_new w (.cells #[.int .i64 op, .string (str nm), .int .i64 m, .slice Ac ncs cc, .slice Ak nks ck] 81)); clear hx hb hcs hkk hal ih; by_cases h13 : op = 13
 . subst h13; go_enter func28, ntmps28
   go_wp2_with fail
   go_ret; exact ⟨by rw [HQ.o]; rfl, HAL.o⟩
 . have q13 : (op == 13) = false := by simpa using h13
   go_enter func28, ntmps28
   go_wp2_with (go_at_call 55
                (with_reducible refine HC.o.mono ?_); rintro e w1 ⟨rfl, hb1⟩)
   go_ret; exact ⟨by rw [HQ.o, q13]; rfl, HAL.o.trans (hb1.mono HAL.o.size)⟩
theorem vS {w0 : World} {va : Value} {ks : List bf} {f : bf -> Bool} (ha : ak w0 (dz w0) va ks) {g : FuncId} {cap : Array Value} (eg : ∀ (args : Array Value) (W : World), (callFunc g args).run prog W = .ok (.enter g args) W)
  (hf : ∀ x ∈ ks, ∀ L, dz w0 L x -> ∀ w, Below w0.heap.size w0 w -> Calls prog g (#[.agg L.toArray] ++ cap) w (ar (f x) w)) :
  ∀ w, Below w0.heap.size w0 w -> Calls prog 54 #[va, .func (.func g) #[] cap] w (yX (ks.any f) w) := by
 intro w hw; obtain ⟨A, ca, rfl, hca, hma, hea⟩ := ha; have hla : ks.length <= 9223372036854775807 := (by unfold maxLen at hma; omega); have HW0 := zH hw; have hsz0 := hw.size; clear hw hca hma; go_enter func54, ntmps54
 go_wp2_with fail
 go_loopg [8] ks.length (λ g v wr => ∃ k : Nat, k + g = ks.length /\ v = .int .i64 k /\ ks.any f = (ks.drop k).any f /\ Below w.heap.size w wr)
 case atStart => exact ⟨0, by omega, rfl, rfl, Below.refl _ _⟩
 case round =>
  obtain ⟨k, hkg, rfl, hto, hbw⟩ := hrel; have HK := zH hkg; have HW := zH hbw; have HT := zH hto; have hszw := hbw.size; have hkl : k <= ks.length := zO; clear hkg hbw hto; by_cases hlt : k < ks.length
  . obtain ⟨y, hy⟩ := zG hlt; obtain ⟨L, hEM, hxl⟩ := hea k y hy; have HF := zH (hf y (List.mem_of_getElem? hy) L hxl); have HB0 := zH (HW0.o.trans (HW.o.mono hsz0)); have HD := zH (show (ks.drop k).any f = (f y || (ks.drop (k + 1)).any f) by rw [lU hy, List.any_cons]); obtain ⟨A0, n0, k0, o1, s2, o3, A4, n4, k4, A5, n5, k5, A6, n6, k6, rfl⟩ := hxl.shape; obtain ⟨a, rfl, hab, haa, d0, d1, d2, d3, d4, d5, d6⟩ := ox (hEM.under HB0.o); clear hEM hea hf hy hxl; cases hfx : f y
    . have HFX := zH hfx; rw [hfx] at HF; clear hfx; go_wp2_with (go_at_fn g; refine (HF.o _ HB0.o).mono ?_; rintro e w1 ⟨rfl, hb1⟩)
      go_roundg (ks.length - (k + 1))
      case measure => have := HK.o; omega
      case rel => exact ⟨k + 1, by omega, by go_num, by rw [HT.o, HD.o, HFX.o]; rfl, HW.o.trans (hb1.mono zO)⟩
    . have HFX := zH hfx; rw [hfx] at HF; clear hfx; go_wp2_with (go_at_fn g; refine (HF.o _ HB0.o).mono ?_; rintro e w1 ⟨rfl, hb1⟩)
      go_ret; exact ⟨⟨_, rfl, by rw [HT.o, HD.o, HFX.o]; simp⟩, HW.o.trans (hb1.mono zO)⟩
  . have hke : k = ks.length := by omega
    have HKE := zH hke; clear hke; go_wp2_with fail
    go_ret; exact ⟨⟨_, rfl, by rw [HT.o, List.drop_of_length_le (by rw [HKE.o]; exact Nat.le_refl _)]; rfl⟩, HW.o⟩
theorem qH {w0 : World} {va : Value} {ks : List bf} {f : bf -> Bool} (ha : ak w0 (dz w0) va ks) {g : FuncId} {cap : Array Value} (eg : ∀ (args : Array Value) (W : World), (callFunc g args).run prog W = .ok (.enter g args) W)
  (hf : ∀ x ∈ ks, ∀ L, dz w0 L x -> ∀ w, Below w0.heap.size w0 w -> Calls prog g (#[.agg L.toArray] ++ cap) w (ar (f x) w)) :
  ∀ w, Below w0.heap.size w0 w -> Calls prog 26 #[va, .func (.func g) #[] cap] w (ar (ks.any f) w) := by
 intro w hw; have H := zH (vS ha eg hf w hw); obtain ⟨A, ca, rfl, _⟩ := ha; clear hf hw; go_enter func26, ntmps26
 go_wp2_with (go_at_call 54; refine H.o.mono ?_; rintro e w1 ⟨⟨n, rfl, hn⟩, hb1⟩; have HN := zH hn; clear hn)
 go_ret; exact ⟨ah HN.o, hb1⟩
def AD (i : bf) : Bool := !i.states.isEmpty || dN i.eq.e
theorem CC {w0 : World} {L : List Value} {i : bf} (hi : dz w0 L i) : ∀ w, Below w0.heap.size w0 w -> Calls prog 27 #[.agg L.toArray] w (ar (AD i) w) := by
 intro w hb; obtain ⟨L', sv, rfl, ⟨nv, L6, rfl, hnv, hX⟩, hsv⟩ := hi; obtain ⟨An, nn, cn, rfl⟩ := ak.shape hnv; have HX := zH hX; obtain ⟨o1, s1, n1, A1, m1, k1, A2, m2, k2, rfl⟩ := hX.shape; obtain ⟨As, cs, rfl, hsc, hsm, _⟩ := hsv; have hsl : i.states.length <= 9223372036854775807 := (by unfold maxLen at hsm; omega); have hal := zA w (.cells #[.slice An nn cn, .int .i64 o1, .string s1, .int .i64 n1, .slice A1 m1 k1, .slice A2 m2 k2, .slice As i.states.length cs] 86); have HAL := zH hal; have HM := zH (tV i.eq.e w0 _ hX _ (hb.trans (hal.mono hb.size))); obtain ⟨p0, p1, p2, p3, p4, p5, p6⟩ := rm (heap_alloc_new w (.cells #[.slice An nn cn, .int .i64 o1, .string s1, .int .i64 n1, .slice A1 m1 k1, .slice A2 m2 k2, .slice As i.states.length cs] 86)); clear hb hX hnv hal hsc hsm; by_cases h0 : i.states = []
 . have hl : i.states.length = 0 := by rw [h0]; rfl
   have HQ := zH (show AD i = dN i.eq.e by unfold AD; rw [h0]; rfl); rw [hl] at HM HAL p6; rw [hl]; clear h0 hl hsl; go_enter func27, ntmps27
   go_wp2_with (go_at_call 28
                (with_reducible refine HM.o.mono ?_); rintro e w1 ⟨rfl, hb1⟩)
   go_ret; exact ⟨by rw [HQ.o]; rfl, HAL.o.trans (hb1.mono HAL.o.size)⟩
 . have hl : 0 < i.states.length := List.length_pos_iff.2 h0; have HQ := zH (show AD i = true by unfold AD; cases hs : i.states with | nil => exact absurd hs h0 | cons a r => rfl); clear h0; go_enter func27, ntmps27
   go_wp2_with fail
   go_ret; exact ⟨by rw [HQ.o]; rfl, HAL.o⟩
theorem uH {w0 : World} {L : List Value} {n : aA} (hL : bS w0 L n) : ∀ w, Below w0.heap.size w0 w -> Calls prog 12 #[.agg L.toArray] w (ar (f7 n) w) := by
 intro w hb; obtain ⟨fv, iv, ov, xv, rfl, hnm, hfu, hin, hou, hit⟩ := hL; obtain ⟨Af, nf, cf, rfl⟩ := ak.shape hfu; obtain ⟨Ai, ni, ci, rfl⟩ := ak.shape hin; obtain ⟨Ao, no, co, rfl⟩ := ak.shape hou; have hal := zA w (.cells #[.string (str n.name), .slice Af nf cf, .slice Ai ni ci, .slice Ao no co, xv] 53); have HAL := zH hal; have HC := zH (qH (f := AD) hit (g := 27) (cap := #[]) (λ args W => by kernel_rfl) (λ x _ L hL w hw => CC hL w hw) _ (hb.trans (hal.mono hb.size))); obtain ⟨Ax, nx, cx, rfl⟩ := ak.shape hit; obtain ⟨p0, p1, p2, p3, p4⟩ := aW (heap_alloc_new w (.cells #[.string (str n.name), .slice Af nf cf, .slice Ai ni ci, .slice Ao no co, .slice Ax nx cx] 53)); clear hb hnm hfu hin hou hit hal; go_enter func12, ntmps12
 go_wp2_with (go_at_call 26
              (with_reducible refine HC.o.mono ?_); rintro e w1 ⟨rfl, hb1⟩)
 go_ret; exact ⟨rfl, HAL.o.trans (hb1.mono HAL.o.size)⟩
theorem vR {w0 : World} {va : Value} {ks : List aA} {f : aA -> Bool} (ha : ak w0 (bS w0) va ks) {g : FuncId} {cap : Array Value} (eg : ∀ (args : Array Value) (W : World), (callFunc g args).run prog W = .ok (.enter g args) W)
  (hf : ∀ x ∈ ks, ∀ L, bS w0 L x -> ∀ w, Below w0.heap.size w0 w -> Calls prog g (#[.agg L.toArray] ++ cap) w (ar (f x) w)) :
  ∀ w, Below w0.heap.size w0 w -> Calls prog 25 #[va, .func (.func g) #[] cap] w (yX (ks.any f) w) := by
 intro w hw; obtain ⟨A, ca, rfl, hca, hma, hea⟩ := ha; have hla : ks.length <= 9223372036854775807 := (by unfold maxLen at hma; omega); have HW0 := zH hw; have hsz0 := hw.size; clear hw hca hma; go_enter func25, ntmps25
 go_wp2_with fail
 go_loopg [8] ks.length (λ g v wr => ∃ k : Nat, k + g = ks.length /\ v = .int .i64 k /\ ks.any f = (ks.drop k).any f /\ Below w.heap.size w wr)
 case atStart => exact ⟨0, by omega, rfl, rfl, Below.refl _ _⟩
 case round =>
  obtain ⟨k, hkg, rfl, hto, hbw⟩ := hrel; have HK := zH hkg; have HW := zH hbw; have HT := zH hto; have hszw := hbw.size; have hkl : k <= ks.length := zO; clear hkg hbw hto; by_cases hlt : k < ks.length
  . obtain ⟨y, hy⟩ := zG hlt; obtain ⟨L, hEM, hxl⟩ := hea k y hy; have HF := zH (hf y (List.mem_of_getElem? hy) L hxl); have HB0 := zH (HW0.o.trans (HW.o.mono hsz0)); have HD := zH (show (ks.drop k).any f = (f y || (ks.drop (k + 1)).any f) by rw [lU hy, List.any_cons]); obtain ⟨s0, A1, n1, k1, A2, n2, k2, A3, n3, k3, A4, n4, k4, rfl⟩ := hxl.shape; obtain ⟨a, rfl, hab, haa, d0, d1, d2, d3, d4⟩ := eh (hEM.under HB0.o); clear hEM hea hf hy hxl; cases hfx : f y
    . have HFX := zH hfx; rw [hfx] at HF; clear hfx; go_wp2_with (go_at_fn g; refine (HF.o _ HB0.o).mono ?_; rintro e w1 ⟨rfl, hb1⟩)
      go_roundg (ks.length - (k + 1))
      case measure => have := HK.o; omega
      case rel => exact ⟨k + 1, by omega, by go_num, by rw [HT.o, HD.o, HFX.o]; rfl, HW.o.trans (hb1.mono zO)⟩
    . have HFX := zH hfx; rw [hfx] at HF; clear hfx; go_wp2_with (go_at_fn g; refine (HF.o _ HB0.o).mono ?_; rintro e w1 ⟨rfl, hb1⟩)
      go_ret; exact ⟨⟨_, rfl, by rw [HT.o, HD.o, HFX.o]; simp⟩, HW.o.trans (hb1.mono zO)⟩
  . have hke : k = ks.length := by omega
    have HKE := zH hke; clear hke; go_wp2_with fail
    go_ret; exact ⟨⟨_, rfl, by rw [HT.o, List.drop_of_length_le (by rw [HKE.o]; exact Nat.le_refl _)]; rfl⟩, HW.o⟩
theorem qG {w0 : World} {va : Value} {ks : List aA} {f : aA -> Bool} (ha : ak w0 (bS w0) va ks) {g : FuncId} {cap : Array Value} (eg : ∀ (args : Array Value) (W : World), (callFunc g args).run prog W = .ok (.enter g args) W)
  (hf : ∀ x ∈ ks, ∀ L, bS w0 L x -> ∀ w, Below w0.heap.size w0 w -> Calls prog g (#[.agg L.toArray] ++ cap) w (ar (f x) w)) :
  ∀ w, Below w0.heap.size w0 w -> Calls prog 11 #[va, .func (.func g) #[] cap] w (ar (ks.any f) w) := by
 intro w hw; have H := zH (vR ha eg hf w hw); obtain ⟨A, ca, rfl, _⟩ := ha; clear hf hw; go_enter func11, ntmps11
 go_wp2_with (go_at_call 25; refine H.o.mono ?_; rintro e w1 ⟨⟨n, rfl, hn⟩, hb1⟩; have HN := zH hn; clear hn)
 go_ret; exact ⟨ah HN.o, hb1⟩
theorem mh {w0 : World} {va : Value} {l : List aA} (ha : ak w0 (bS w0) va l) : ∀ w, Below w0.heap.size w0 w -> Calls prog 11 #[va, .func (.func 12) #[] #[]] w (ar (l.any f7) w) :=
 qG (f := f7) ha (g := 12) (cap := #[]) (λ args W => by kernel_rfl) (λ _ _ _ hL w hw => uH hL w hw)
def kF (fs : List Tx) (l : List (Tx × SgE)) : Prop := (∀ p ∈ l, p.1 ∈ fs /\ p.2.ins.length <= 6 /\ p.2.outs.length <= 6) /\ (l.map Prod.fst).Nodup
theorem zf {X : Type} {l : List (Tx × X)} {s : Tx} (h : bl l s = none) : s ∉ l.map Prod.fst := by
 unfold bl at h; rw [Option.map_eq_none_iff, List.find?_eq_none] at h; intro hm; obtain ⟨p, hp, e⟩ := List.mem_map.1 hm; exact h p hp (by simpa using e)
theorem IW {X : Type} {l : List (Tx × X)} {s : Tx} (h : s ∈ l.map Prod.fst) : bl l s ≠ none := λ e => zf e h
theorem CA {X : Type} {l : List (Tx × X)} {s : Tx} {x : X} (h : bl l s = some x) : (s, x) ∈ l := by
 unfold bl at h; obtain ⟨p, hp, rfl⟩ := Option.map_eq_some_iff.1 h; have h1 := List.mem_of_find?_eq_some hp; have h2 := List.find?_some hp; have : p.1 = s := by simpa using h2
 rw [<- this]; exact h1
theorem Bz {fs : List Tx} {op : Int} {n : Nat} {nm : Tx} {k : Nat} {t : TSt} (h : kF fs t.funs) (hn : n <= 6) (hk : op = 14 -> k <= 6) : kF fs (du fs op n nm k t).funs := by
 unfold du; split
 . rename_i hc; obtain ⟨h14, hin, hg⟩ := hc; show kF fs (t.funs ++ [(nm, ⟨t.news k, (t.adds k).news n⟩)]); refine ⟨λ p hp => ?_, ?_⟩
   . rcases List.mem_append.1 hp with hp | hp
     . exact h.1 p hp
     . simp at hp; subst hp; exact ⟨hin, by rw [TSt.news_len]; exact hk h14, by rw [TSt.news_len]; exact hn⟩
   . rw [List.map_append, List.nodup_append]; refine ⟨h.2, by simp, λ a ha b hb => ?_⟩; simp at hb; subst hb; intro e; subst e; exact zf hg ha
 . exact h
theorem Iw {made : Bool} {fs : List Tx} : ∀ x : Ex, bI made x = true -> ∀ (t : TSt) (n : Nat), n <= 6 -> kF fs t.funs -> kF fs (eM fs n t x).funs := by
 refine Ex.ind λ op nm m cs ks ih => ?_; intro hr t n hn h; rw [bI, Bool.and_eq_true] at hr; have hs := iU hr.1; rw [qt]; have : ∀ (l : List Ex), (∀ k ∈ l, k ∈ ks) -> ∀ (first : Bool) (t : TSt), kF fs t.funs -> kF fs (aY fs op n first t l).funs := by
  intro l; induction l with
  | nil => intro _ _ t h; exact h
  | cons k r ihr =>
    intro hl first t h; rw [aY]; exact ihr (λ k hk => hl k (by simp [hk])) _ _ (ih k (hl k (by simp)) (ga hr.2 k (hl k (by simp))) t _ (by split <;> omega) h)
 exact this ks (λ _ h => h) _ _ (Bz h hn λ e => (hs.call e).1)
theorem DY {fs : List Tx} (l : List bf) : ∀ t : TSt, (∀ i ∈ l, i.eq.names.length <= 6) -> (∀ i ∈ l, bI true i.eq.e = true) -> kF fs t.funs -> kF fs (eN fs t l).funs := by
 induction l with
 | nil => intro t _ _ h; exact h
 | cons i r ih =>
   intro t h6 hr h; exact ih _ (λ k hk => h6 k (by simp [hk])) (λ k hk => hr k (by simp [hk])) (Iw i.eq.e (hr i (by simp)) t _ (h6 i (by simp)) h)
theorem sx {X : Type} [DecidableEq X] : ∀ (l m : List X), l.Nodup -> (∀ x ∈ l, x ∈ m) -> m.length <= l.length -> m.Nodup -> ∀ x ∈ m, x ∈ l
 | [], m, _, _, hm, _, x, hx => by
   have : m = [] := List.eq_nil_of_length_eq_zero (by simpa using hm)
   rw [this] at hx; cases hx
 | a :: r, m, hl, hs, hm, hmn, x, hx => by
   rw [List.nodup_cons] at hl
   by_cases e : x = a
   . simp [e]
   . refine List.mem_cons_of_mem _ (sx r (m.erase a) hl.2 (λ y hy => ?_) ?_ (hmn.erase a) x ?_)
     . exact (List.mem_erase_of_ne (λ e => hl.1 (by rw [<- e]; exact hy))).2 (hs y (List.mem_cons_of_mem _ hy))
     . rw [List.length_erase_of_mem (hs a (by simp))]
       simp at hm
       omega
     . exact (List.mem_erase_of_ne e).2 hx
theorem qw {fs : List Tx} {l : List (Tx × SgE)} (h : kF fs l) (hl : ¬ l.length < fs.length) (hn : fs.Nodup) : ∀ f ∈ fs, bl l f ≠ none := λ f hf =>
 IW (sx (l.map Prod.fst) fs h.2 (λ x hx => by obtain ⟨p, hp, rfl⟩ := List.mem_map.1 hx; exact (h.1 p hp).1) (by simp; omega) hn f hf)
theorem By {fs : List Tx} {l : List (Tx × SgE)} (h : kF fs l) {c : Tx} (hc : bl l c ≠ none) : c ∈ fs := by
 cases hg : bl l c with
 | none => exact absurd hg hc
 | some s => exact (h.1 _ (CA hg)).1
theorem CU {cx : TCx} {made : Bool} (x : Ex) (hr : bI made x = true) (n : Nat) (h1 : 1 <= n) (ho : n = 1 ∨ x.op = 14 ∨ x.op = 15) (t : TSt) : (dA cx t n x).2.length <= n := by
 obtain ⟨op, nm, m, cs, ks⟩ := x; rw [bI, Bool.and_eq_true] at hr; have hs := iU hr.1; by_cases h14 : op = 14
 . subst h14; rw [r9]; exact Nat.le_refl _
 by_cases h15 : op = 15
 . obtain ⟨a, b, rfl, ha⟩ := hs.every h15; rw [dA, if_neg h14, if_pos h15, qz]; obtain ⟨op', nm', m', cs', ks'⟩ := a; have : op' = 14 := ha; subst this; rw [r9]; exact Nat.le_refl _
 . rw [dA, if_neg h14, if_neg h15]; exact h1
theorem Fu {ks : KS} (h : ks.Ok) (a : Int) {nums : List (Int × Int)} (hn : ∀ p ∈ nums, (Lit.int .i64 p.2).wf = true) (hl : nums.length <= 4194303) : (Lit.int .i64 (iW ks nums a).2).wf = true /\ ∀ p ∈ (iW ks nums a).1, (Lit.int .i64 p.2).wf = true := by
 unfold iW; split
 . have := sq h a; exact ⟨WalkArith.wf_i64 zO, hn⟩
 . split
   . rename_i x hx; have := mI hx; obtain ⟨p, hp, e⟩ := List.mem_map.1 this; injection e with e1 e2; injection e2 with e2 e3; exact ⟨by rw [<- e3]; exact hn p hp, hn⟩
   . have hw : (Lit.int .i64 (-((nums.length : Int) + 1))).wf = true := WalkArith.wf_i64 zO; refine ⟨hw, λ p hp => ?_⟩; rcases List.mem_append.1 hp with hp | hp
     . exact hn p hp
     . simp at hp; subst hp; exact hw
theorem po {ks : KS} (h : ks.Ok) (l : List Int) : ∀ {nums : List (Int × Int)}, (∀ p ∈ nums, (Lit.int .i64 p.2).wf = true) -> nums.length + l.length <= 4194303 -> nL (a7 ks nums l).2 /\ ∀ p ∈ (a7 ks nums l).1, (Lit.int .i64 p.2).wf = true := by
 induction l with
 | nil => intro nums hn _; exact ⟨λ m hm => (by cases hm), hn⟩
 | cons a r ih =>
   intro nums hn hl; rw [List.length_cons] at hl; obtain ⟨h1, h2⟩ := Fu h a hn zO; have h3 := vl ks nums a; obtain ⟨h4, h5⟩ := ih h2 zO; rw [a7]; exact ⟨λ m hm => (List.mem_cons.1 hm).elim (λ e => by rw [e]; exact h1) (h4 m), h5⟩
theorem CL {ks : KS} (h : ks.Ok) (l : List SgE) : ∀ {nums : List (Int × Int)}, (∀ p ∈ nums, (Lit.int .i64 p.2).wf = true) -> nums.length + gO l <= 4194303 -> (∀ s ∈ (aT ks nums l).2, nL s.ins /\ nL s.outs) /\ ∀ p ∈ (aT ks nums l).1, (Lit.int .i64 p.2).wf = true := by
 induction l with
 | nil => intro nums hn _; exact ⟨λ m hm => (by cases hm), hn⟩
 | cons s r ih =>
   intro nums hn hl; rw [gO] at hl; unfold sgN at hl; obtain ⟨h1, h2⟩ := po h s.ins hn zO; have h3 := (dy ks s.ins nums).1; obtain ⟨h4, h5⟩ := po h s.outs h2 zO; have h6 := (dy ks s.outs (a7 ks nums s.ins).1).1; obtain ⟨h7, h8⟩ := ih (nums := (oM ks nums s).1) h5 (by show (a7 ks (a7 ks nums s.ins).1 s.outs).1.length + _ <= _; omega); rw [aT]; exact ⟨λ m hm => (List.mem_cons.1 hm).elim (λ e => by rw [e]; exact ⟨h1, h4⟩) (h7 m), h8⟩
theorem xu (ks : KS) (l : List SgE) : ∀ nums : List (Int × Int), gO (aT ks nums l).2 = gO l := by
 induction l with
 | nil => intro nums; rfl
 | cons s r ih =>
   intro nums; rw [aT, gO, gO, ih]; show sgN ⟨(a7 ks nums s.ins).2, (a7 ks (a7 ks nums s.ins).1 s.outs).2⟩ + _ = _; unfold sgN; rw [(dy ks s.ins nums).2, (dy ks s.outs _).2]
theorem Fe (l : List SgE) (h : ∀ s ∈ l, s.ins.length <= 6 /\ s.outs.length <= 6) : gO l <= 12 * l.length := by
 induction l with
 | nil => simp [gO]
 | cons s r ih =>
   rw [gO, List.length_cons]; have h1 := h s (by simp); have h2 := ih λ s hs => h s (by simp [hs]); unfold sgN; omega
structure l5 (n : aA) (q : bz) : Prop where
 funs : q.funs.length = n.funs.length
 few : q.funs.length <= 6
 small : qN q <= 84
 sigs : ∀ s ∈ q.funs, nL s.ins /\ nL s.outs
 ins : nL q.sg.ins
 outs : nL q.sg.outs
def da (t : TSt) (n : aA) : List SgE := n.funs.map λ s => (bl t.funs s).getD ⟨[], []⟩
theorem sH {t : TSt} {n : aA} (hf : kF n.funs t.funs) (hl : n.funs.length <= 6) : gO (da t n) <= 72 := by
 have h1 := Fe (da t n) λ s hs => by
  obtain ⟨f, _, rfl⟩ := List.mem_map.1 hs; cases hg : bl t.funs f with
  | none => exact ⟨Nat.zero_le _, Nat.zero_le _⟩
  | some s => exact (hf.1 _ (CA hg)).2
 have h2 : (da t n).length = n.funs.length := (by unfold da; rw [List.length_map]); omega
theorem FQ {t : TSt} {n : aA} (hk : t.ks.Ok) (hf : kF n.funs t.funs) (hl : n.funs.length <= 6 /\ n.ins.length <= 6 /\ n.outs.length <= 6) : l5 n (oq t n) := by
 have h0 := sH hf hl.1; have hfl : (aT t.ks [] (da t n)).2.length = n.funs.length := (by rw [(nD t.ks _ _).2]; unfold da; rw [List.length_map]); obtain ⟨h1, h2⟩ := CL hk (da t n) (nums := []) (λ p hp => by cases hp) (by simp; omega); have h3 := (nD t.ks (da t n) []).1; rw [List.length_nil] at h3; obtain ⟨h4, h5⟩ := po hk (n.ins.map t.var) h2 (by rw [List.length_map]; omega); have h6 := (dy t.ks (n.ins.map t.var) (aT t.ks [] (da t n)).1); rw [List.length_map] at h6; obtain ⟨h7, _⟩ := po hk (n.outs.map t.var) h5 (by rw [List.length_map]; omega); have h8 := (dy t.ks (n.outs.map t.var) (a7 t.ks (aT t.ks [] (da t n)).1 (n.ins.map t.var)).1).2; rw [List.length_map] at h8; refine ⟨hfl, by show (aT t.ks [] (da t n)).2.length <= 6; rw [hfl]; exact hl.1, ?_, h1, h4, h7⟩; show gO (aT t.ks [] (da t n)).2 + sgN ⟨_, _⟩ <= 84; rw [xu]; unfold sgN; simp only; have h9 : ((a7 t.ks (aT t.ks [] (da t n)).1 (n.ins.map t.var)).2).length = n.ins.length := h6.2; have h10 : ((a7 t.ks (a7 t.ks (aT t.ks [] (da t n)).1 (n.ins.map t.var)).1 (n.outs.map t.var)).2).length = n.outs.length := h8; show _ + (((a7 t.ks (aT t.ks [] (da t n)).1 (n.ins.map t.var)).2).length + ((a7 t.ks (a7 t.ks (aT t.ks [] (da t n)).1 (n.ins.map t.var)).1 (n.outs.map t.var)).2).length) <= 84; omega
structure lz (ns : List aA) (l : List (Tx × bz)) : Prop where
 names : l.map Prod.fst = ns.map aA.name
 ok : ∀ (i : Nat) n x, ns[i]? = some n -> l[i]? = some x -> l5 n x.2
theorem lz.snoc {ns : List aA} {l : List (Tx × bz)} (h : lz ns l) {n : aA} {q : bz} (hq : l5 n q) : lz (ns ++ [n]) (l ++ [(n.name, q)]) := by
 have hl : l.length = ns.length := (by simpa using congrArg List.length h.names); refine ⟨by simp [h.names], λ i m x hm hx => ?_⟩; by_cases hi : i < ns.length
 . rw [List.getElem?_append_left hi] at hm; rw [List.getElem?_append_left zO] at hx; exact h.ok i m x hm hx
 . rw [List.getElem?_append_right zO] at hm hx; have h0 : i - ns.length = 0 := by
    have := (List.getElem?_eq_some_iff.1 hm).1; simp at this; omega
   rw [h0] at hm; rw [hl, h0] at hx; simp at hm hx; subst hm hx; exact hq
theorem lz.look {ns : List aA} {l : List (Tx × bz)} (h : lz ns l) {nm : Tx} {n : aA} (hn : bl (ns.map λ n => (n.name, n)) nm = some n) : ∃ q, bl l nm = some q /\ l5 n q := by
 induction ns generalizing l with
 | nil => simp [bl] at hn
 | cons m r ih =>
   cases l with
   | nil => have := h.names; simp at this
   | cons x s =>
     have hx : x.1 = m.name := (by have := h.names; simp at this; exact this.1); have h' : lz r s := ⟨by have := h.names; simp at this; exact this.2, λ i n' x' h1 h2 => h.ok (i + 1) n' x' (by simpa using h1) (by simpa using h2)⟩; rw [List.map_cons] at hn; by_cases e : m.name = nm
     . have : n = m := by
        unfold bl at hn; rw [List.find?_cons_of_pos (by simpa using e)] at hn; cases hn; rfl
       subst this; exact ⟨x.2, by unfold bl; rw [List.find?_cons_of_pos (by simpa [hx] using e)]; rfl, h.ok 0 n x rfl rfl⟩
     . have h1 : bl (r.map λ n => (n.name, n)) nm = some n := by
        unfold bl at hn ⊢; rwa [List.find?_cons_of_neg (by simpa using e)] at hn
       obtain ⟨q, h2, h3⟩ := ih h' h1; exact ⟨q, by unfold bl at h2 ⊢; rwa [List.find?_cons_of_neg (by simpa [hx] using e)], h3⟩
theorem lz.back {ns : List aA} {l : List (Tx × bz)} (h : lz ns l) {nm : Tx} {q : bz} (hq : bl l nm = some q) : ∃ (i : Nat) (n : aA), bl (ns.map λ n => (n.name, n)) nm = some n /\ ns[i]? = some n /\ l[i]? = some (nm, q) /\ ∀ j, j < i -> ∀ m, ns[j]? = some m -> m.name ≠ nm := by
 induction ns generalizing l with
 | nil => cases l with
   | nil => simp [bl] at hq
   | cons x s => have := h.names; simp at this
 | cons m r ih =>
   cases l with
   | nil => have := h.names; simp at this
   | cons x s =>
     have hx : x.1 = m.name := (by have := h.names; simp at this; exact this.1); have h' : lz r s := ⟨by have := h.names; simp at this; exact this.2, λ i n' x' h1 h2 => h.ok (i + 1) n' x' (by simpa using h1) (by simpa using h2)⟩; by_cases e : m.name = nm
     . have : q = x.2 := by
        unfold bl at hq; rw [List.find?_cons_of_pos (by simpa [hx] using e)] at hq; cases hq; rfl
       subst this; exact ⟨0, m, by unfold bl; rw [List.map_cons, List.find?_cons_of_pos (by simpa using e)]; rfl, rfl, by rw [<- e, <- hx]; rfl, λ j hj => by omega⟩
     . have h1 : bl s nm = some q := by
        unfold bl at hq ⊢; rwa [List.find?_cons_of_neg (by simpa [hx] using e)] at hq
       obtain ⟨i, n, h2, h3, h4, h5⟩ := ih h' h1; refine ⟨i + 1, n, ?_, by simpa using h3, by simpa using h4, λ j hj m' hm' => ?_⟩
       . unfold bl at h2 ⊢; rwa [List.map_cons, List.find?_cons_of_neg (by simpa using e)]
       . cases j with
         | zero => simp at hm'; subst hm'; exact e
         | succ j => exact h5 j zO m' (by simpa using hm')
theorem vy (nm : Tx) (l : List aA) : ∀ (k : Int) (i : Nat) n, l[i]? = some n -> n.name = nm -> (∀ j, j < i -> ∀ m, l[j]? = some m -> m.name ≠ nm) -> iY k nm l = (k + i, true) := by
 induction l with
 | nil => intro k i n h; simp at h
 | cons x r ih =>
   intro k i n h hn hj; cases i with
   | zero =>
     simp at h; subst h; rw [iY, if_pos hn]; simp
   | succ i =>
     rw [iY, if_neg (hj 0 zO x rfl), ih (k + 1) i n (by simpa using h) hn λ j hji m hm => hj (j + 1) zO m (by simpa using hm)]; congr 1
     omega
theorem Bx {prev : List aA} {n : aA} (hfit : tc prev n) {l : List (Tx × bz)} (hp : lz prev l) {t : TSt} (hf : kF n.funs t.funs) (hlen : ¬ t.funs.length < n.funs.length) : ∀ i ∈ n.items, okX t.funs (bl l) i.eq.e := by
 obtain ⟨s, hs1, hs2, hs3⟩ := hfit.uses
 have hk : EN s t.funs (bl l) := ⟨λ c => by
  rw [hs1, List.contains_iff_mem]; exact ⟨λ h => By hf h, λ h => qw hf hlen hfit.funs c h⟩, λ nm m hm => by
  rw [hs2] at hm; obtain ⟨q, h1, h2⟩ := hp.look hm; exact ⟨q, h1, h2.funs⟩⟩
 exact λ i hi => HZ hk i.eq.e _ _ (hfit.right i hi) (hs3 i hi)
theorem BI {made : Bool} : ∀ x : Ex, bI made x = true -> mX x <= 14 * gH x := by
 refine Ex.ind λ op nm m cs ks ih => ?_; intro hr; rw [bI, Bool.and_eq_true] at hr; have hs := iU hr.1; have : ∀ l : List Ex, (∀ k ∈ l, k ∈ ks) -> dv l <= 14 * cr l := by
  intro l; induction l with
  | nil => intro _; simp [dv]
  | cons k r ihr =>
    intro hl; rw [dv, cr]; have h1 := ih k (hl k (by simp)) (ga hr.2 k (hl k (by simp))); have h2 := ihr λ k hk => hl k (by simp [hk]); omega
 have h1 := this ks λ _ h => h; have h2 := hs.kids8; rw [mX, gH]; omega
theorem Gl (x : Ex) : 1 <= gH x := by obtain ⟨op, nm, m, cs, ks⟩ := x; rw [gH]; omega
theorem D0 {l : List bf} (hr : ∀ i ∈ l, bI true i.eq.e = true) : dv (dJ l) <= 14 * cr (dJ l) /\ bQ 84 (dJ l) <= 763 * cr (dJ l) /\ l.length <= cr (dJ l) := by
 induction l with
 | nil => exact ⟨Nat.le_refl _, Nat.le_refl _, Nat.le_refl _⟩
 | cons i r ih =>
   obtain ⟨h1, h2, h3⟩ := ih λ k hk => hr k (by simp [hk]); have h4 := BI i.eq.e (hr i (by simp)); have h5 := Ef 84 i.eq.e (hr i (by simp)); have h6 := Gl i.eq.e; show mX i.eq.e + dv (dJ r) <= 14 * (gH i.eq.e + cr (dJ r)) /\ gh 84 i.eq.e + bQ 84 (dJ r) <= 763 * (gH i.eq.e + cr (dJ r)) /\ (i :: r).length <= gH i.eq.e + cr (dJ r); rw [List.length_cons]; omega
theorem DW {prev : List aA} {n : aA} (h : tc prev n) : (aG n).length <= 6 + 6 * n.items.length := by
 unfold aG; rw [List.length_append]; have : ∀ l : List bf, (∀ i ∈ l, i.states = []) -> (∀ i ∈ l, i.eq.names.length <= 6) -> (l.flatMap aH).length <= 6 * l.length := by
  intro l; induction l with
  | nil => intro _ _; simp
  | cons i r ih =>
    intro h1 h2; rw [List.flatMap_cons, List.length_append, List.length_cons]; have h3 : aH i = i.eq.names := (by unfold aH; rw [h1 i (by simp)]); have h4 := h2 i (by simp); have h5 := ih (λ k hk => h1 k (by simp [hk])) (λ k hk => h2 k (by simp [hk])); rw [h3]; omega
 have h1 := this n.items h.plain λ i hi => (h.names i hi).2; have h2 := h.few.2.1; omega
theorem sK {prev : List aA} {n : aA} (h : tc prev n) : (aG n).length + dv (dJ n.items) + bQ 84 (dJ n.items) < 4194303 /\ (aG n).length <= 1806 := by
 obtain ⟨h1, h2, h3⟩ := D0 h.right; have h4 : cr (dJ n.items) <= 300 := h.size; have h5 := DW h; omega
def fS (p : cg) (nm : Tx) : Int := if (rB p nm).1 < 0 then 2 else 16 + (rB p nm).1
theorem Ge (s : Tx) (l : List fo) : ∀ k : Int, 0 <= k -> (mZ k s l).1 <= k + l.length := by
 induction l with
 | nil => intro k hk; simpa [mZ] using hk
 | cons e r ih =>
   intro k hk; rw [mZ]; split
   . simp only [List.length_cons]; omega
   . have := ih (k + 1) zO; simp only [List.length_cons]; omega
theorem zV {p : cg} (hp : eZ p <= 1048576) (s : Tx) : (rB p s).1 <= 1048576 := by
 have hl : p.enums.length <= 1048576 := by
  have := yb (f := rJ) (l := p.enums) (λ i _ => by unfold rJ; omega); unfold eZ at hp; omega
 unfold rB; split
 . simp only; omega
 . have := Ge s p.enums 0 (Int.le_refl _); omega
theorem ak.imp {X : Type} {w : World} {R R' : List Value -> X -> Prop} {v : Value} {l : List X} (h : ak w R v l) (hR : ∀ L x, x ∈ l -> R L x -> R' L x) : ak w R' v l := by
 obtain ⟨A, c, rfl, h1, h2, h3⟩ := h
 exact ⟨A, c, rfl, h1, h2, λ i x hx => by
  obtain ⟨L, h4, h5⟩ := h3 i x hx; exact ⟨L, h4, hR L x (List.mem_of_getElem? hx) h5⟩⟩
def dU (C : Nat) (w : World) (v : Value) (qs : List bz) : Prop := aS (kE C w) C 41 4 w v qs
theorem DG {C : Nat} {w : World} (L : List Value) (q : bz) (h : kE C w L q) : L.length = 4 := by
 obtain ⟨a, b, c, d, rfl, _⟩ := h; rfl
theorem DF {C : Nat} {w : World} (L : List Value) (q : bz) (h : kE C w L q) : ∀ u ∈ L, u.oneCell' = true := by
 obtain ⟨a, b, c, d, rfl, h1, h2, h3, h4⟩ := h; obtain ⟨_, _, _, rfl, _⟩ := h1.shape; obtain ⟨_, _, _, rfl, _⟩ := h2.shape; obtain ⟨_, _, _, rfl, _⟩ := h3.shape; obtain ⟨_, _, _, rfl, _⟩ := h4.shape; intro u hu; simp at hu; rcases hu with rfl | rfl | rfl | rfl <;> rfl
theorem DI : (prog.info? 41).map (λ i => (i.zero, i.size, i.bytes)) = some (some (.agg #[.slice none 0 0, .slice none 0 0, .slice none 0 0, .slice none 0 0]), 4, 96) := by kernel_rfl
section
variable {C C' : Nat} {w w' : World} {L : List Value} {q : bz} {v : Value} {qs : List bz}
theorem kE.under (h : kE C w L q) (hb : Below w.heap.size w w') : kE C w' L q := by
 obtain ⟨a, b, c, d, rfl, h1, h2, h3, h4⟩ := h; exact ⟨a, b, c, d, rfl, h1.under hb, h2.under hb, h3.under hb, h4.under hb⟩
theorem rF.low (hC : C' <= C) {s : SgE} (h : rF C w L s) : rF C' w L s := by
 obtain ⟨a, b, rfl, h1, h2⟩ := h; exact ⟨a, b, rfl, aS.low h1 hC, aS.low h2 hC⟩
theorem kE.low (h : kE C w L q) (hC : C' <= C) : kE C' w L q := by
 obtain ⟨a, b, c, d, rfl, h1, h2, h3, h4⟩ := h; exact ⟨a, b, c, d, rfl, aS.keepR (aS.low h1 hC) (λ _ _ _ h => h) (λ _ _ _ h => h.low hC), aS.low h2 hC, aS.low h3 hC, aS.low h4 hC⟩
theorem kE.keptT (h : kE C w L q) (hk : bs 41 w w') : kE C w' L q := by
 obtain ⟨a, b, c, d, rfl, h1, h2, h3, h4⟩ := h; exact ⟨a, b, c, d, rfl, h1.keptT hk zD zD, h2.keptT hk zD, h3.keptT hk zD, h4.keptT hk zD⟩
theorem dU.under (h : dU C w v qs) (hb : Below w.heap.size w w') : dU C w' v qs :=
 aS.keepR h (λ g _ _ ho => (hb.block g (ab ho)).trans ho) λ _ _ _ h => h.under hb
theorem dU.keptB {T1 : TypeId} (h : dU C w v qs) (hk : bs T1 w w') (n1 : 41 ≠ T1) (n2 : 38 ≠ T1) (n3 : 47 ≠ T1) (n4 : 64 ≠ T1) : dU C w' v qs :=
 aS.keepR h (λ g o hg ho => by
  obtain ⟨_, _, cur, hc⟩ := h.blk hg
  rw [hc] at ho
  cases ho
  exact hk.cells hc n1) λ _ _ _ ⟨a, b, c, d, e, h1, h2, h3, h4⟩ => ⟨a, b, c, d, e, h1.keptT hk n2 n3, h2.keptT hk n3, h3.keptT hk n3, h4.keptT hk n4⟩
theorem dU.grownTo (h : aS (kE C w) C 41 4 w' v qs) (hk : bs 41 w w') : dU C w' v qs :=
 aS.keepR h (λ _ _ _ h => h) λ _ _ _ h => h.keptT hk
theorem dU.read (h : dU C w v qs) (hq : ∀ q ∈ qs, ∃ n, l5 n q) : ak w (Jr w) v qs :=
 (aS.at_ h).imp λ L q hm ⟨a, b, c, d, e, h1, h2, h3, h4⟩ => by
   obtain ⟨n, hn⟩ := hq q hm
   exact ⟨a, b, c, d, e, (aS.at_ h1).imp λ L' s hs ⟨x, y, e', g1, g2⟩ => ⟨x, y, e', g1.typs, g2.typs, (hn.sigs s hs).1, (hn.sigs s hs).2⟩, h2.typs, h3.typs, hn.ins, hn.outs⟩
end
theorem lz.all {ns : List aA} {l : List (Tx × bz)} (h : lz ns l) : ∀ q ∈ l.map Prod.snd, ∃ n, l5 n q := by
 intro q hq; obtain ⟨x, hx, rfl⟩ := List.mem_map.1 hq; obtain ⟨i, hi⟩ := List.getElem?_of_mem hx; have hl : l.length = ns.length := (by simpa using congrArg List.length h.names); have hin : i < ns.length := (by rw [<- hl]; exact (List.getElem?_eq_some_iff.1 hi).1); exact ⟨ns[i], h.ok i _ x (List.getElem?_eq_getElem hin) hi⟩
theorem vL {cx : TCx} {D : Nat} (hD : ∀ nm q, cx.sig nm = some q -> qN q <= D) (l : List bf) : ∀ (b : Int) (t u : TSt), (∀ i ∈ l, i.eq.names.length <= 6) -> eE cx b t l = .inl u -> u.funs = t.funs := by
 induction l with
 | nil => intro b t u _ h; cases h; rfl
 | cons i r ih =>
   intro b t u h6 h; rw [eE] at h; split at h
   . cases h
   . exact (ih _ _ _ (λ k hk => h6 k (by simp [hk])) h).trans (j9 hD t i.eq (h6 i (by simp))).2.1
theorem xW {cx : TCx} {D : Nat} (hD : ∀ nm q, cx.sig nm = some q -> qN q <= D) {n : aA} (h6 : ∀ i ∈ n.items, i.eq.names.length <= 6) {u : TSt} (h : jk cx n = .inl u) : ¬ (eN n.funs (cz .new (aG n)) n.items).funs.length < n.funs.length /\ u.funs = (eN n.funs (cz .new (aG n)) n.items).funs := by
 have h' : (if (eN n.funs (cz .new (aG n)) n.items).funs.length < n.funs.length then (.inr (-1) : TSt ⊕ Int) else eE cx 0 (eN n.funs (cz .new (aG n)) n.items) n.items) = .inl u := h; split at h'
 . cases h'
 . rename_i hl; exact ⟨hl, vL hD _ _ _ _ h6 h'⟩
theorem fY {tmps : Array Value} {w : World} {N : Nat} {v x0 x1 x2 : Value} (hp : tmps.getD 3 undef = .pointer (some ⟨N, 0, none⟩)) (hv : tmps.getD 2 undef = v) (hg : w.heap[N]? = some (.cells #[x0, x1, x2] 30 (0, 0))) :
  (results f5 tmps).run prog w = .ok (.tuple #[v, .agg #[x0, x1, x2]]) w := by
 have hl := run_loadVar_row (P := prog) w N 30 30 #[x0, x1, x2] (0, 0) _ hg underlying30 rfl zK; have hp' : tmps[3]?.getD undef = .pointer (some ⟨N, 0, none⟩) := (by simpa using hp); have hv' : tmps[2]?.getD undef = v := (by simpa using hv); simp [results, results5, hp', hv', asAddr, hl]
def dQ (p : cg) (W : World) (e : Ending) (w' : World) : Prop := ∃ v, e = .returned (.tuple #[v, .agg #[.int .i64 (dR (fS p) p).2.1, .int .i64 (dR (fS p) p).2.2.1, .int .i64 (dR (fS p) p).2.2.2]]) /\ dU W.heap.size w' v (dR (fS p) p).1 /\ Below W.heap.size W w'
theorem dQ.bad {p : cg} {W w' : World} {f : Int × Int × Int} (h : dR (fS p) p = ([], f)) (hb : Below W.heap.size W w') : dQ p W (.returned (.tuple #[.slice none 0 0, .agg #[.int .i64 f.1, .int .i64 f.2.1, .int .i64 f.2.2]])) w' := by
 unfold dQ; rw [h]; exact ⟨_, rfl, aS.nil _, hb⟩
section
variable {p : cg} {l : List (Tx × bz)} {n : aA} {j C : Nat} {W1 W8 : World} {H : TyH} {kv : Value} {a b v : Value} {L : List Value}
theorem zh (hev : H.ev = a) (hnv : H.nv = b) (hiv : H.iv = v) (hP : dS W1 [a, b] p) (hI : dU C W1 v (l.map Prod.snd)) (hpv : lz (p.nodes.take j) l) : lZ H (bl l) 84 W1 := by
 refine ⟨λ nm q hq => ?_, λ nm q hq => ?_, λ nm q hq => ?_⟩
 . obtain ⟨i, m, _, h2, h3, h4⟩ := hpv.back hq; have hij : i < j := by
    have := (List.getElem?_eq_some_iff.1 h2).1; rw [List.length_take] at this; omega
   rw [List.getElem?_take, if_pos hij] at h2; have hm : m.name = nm := by
    have hx := hpv.names; have h5 : (l.map Prod.fst)[i]? = some nm := (by rw [List.getElem?_map, h3]; rfl); rw [hx, List.getElem?_map, List.getElem?_take, if_pos hij, h2] at h5; injection h5
   have hnode := Dp hP nm; rw [vy nm p.nodes 0 i m h2 hm λ k hk m' hm' => h4 k hk m' (by rw [List.getElem?_take, if_pos zO]; exact hm')] at hnode; refine ⟨i, l.map Prod.snd, by rw [hiv]; exact hI.read hpv.all, by rw [List.getElem?_map, h3]; rfl, λ W hW => ?_⟩; rw [hev, hnv]; refine (hnode W hW).mono ?_; rintro e w' ⟨rfl, hb⟩; exact ⟨by simp, hb⟩
 . obtain ⟨i, m, _, h2, h3, _⟩ := hpv.back hq; exact (hpv.ok i m _ h2 h3).small
 . obtain ⟨i, m, _, h2, h3, _⟩ := hpv.back hq; have := (hpv.ok i m _ h2 h3).few; simp only at this; omega
theorem IA (hev : H.ev = a) (hnv : H.nv = b) (hP : dS W1 [a, b] p) (hp : eZ p <= 1048576) : oL H (fS p) W1 := by
 intro nm W hW; rw [hev, hnv]; refine (Gd hP nm W hW).mono ?_; rintro e w' ⟨rfl, hb⟩; exact ⟨_, _, _, rfl, by have := zV hp nm; omega, rfl, hb⟩
theorem qY (hev : H.ev = a) (hnv : H.nv = b) (hiv : H.iv = v) (hP : dS W1 [a, b] p) (hp : eZ p <= 1048576) (hI : dU C W1 v (l.map Prod.snd)) (hpv : lz (p.nodes.take j) l) (hfit : tc (p.nodes.take j) n) (hNA : bS W1 L n) (hvf : (aG n).length <= 2097152)
  (hty : aJ W1.heap.size W8 H kv TSt.new) (hne : H.mv ≠ H.mf) (hBV : W1.heap.size <= H.mv) (hBF : W1.heap.size <= H.mf) (hb : Below W1.heap.size W1 W8) :
  Calls prog 14 #[.pointer (some ⟨H.N, 0, none⟩), .agg L.toArray] W8 (qZ W1.heap.size H (jk ⟨fS p, bl l⟩ n) W8) := by
 have h6 : ∀ i ∈ n.items, i.eq.names.length <= 6 := λ i hi => (hfit.names i hi).2
 have hfi : kF n.funs (eN n.funs (cz .new (aG n)) n.items).funs := DY n.items _ h6 hfit.right (by
  rw [(pz (aG n) TSt.new).2.1]; exact ⟨λ p hp => absurd hp List.not_mem_nil, List.nodup_nil⟩)
 exact xe (cx := ⟨fS p, bl l⟩) (D := 84) hty hb.size hb (Nat.le_refl _) hne hBV hBF hNA (λ W hW => uu hNA hvf W hW) hfit.nodup (zh hev hnv hiv hP hI hpv) (IA hev hnv hP hp)
  (λ c => by have := zV hp c; show fS p c < _; unfold fS; split <;> omega) Cy (λ A c ha s W hW => mY s ha W hW) h6 hfit.right (λ hl => Bx hfit hpv hfi hl)
  (λ i hi t => CU i.eq.e (hfit.right i hi) _ (hfit.names i hi).1 (hfit.one i hi) t) hfit.few.1 (sK hfit).1
theorem FR {t' : TSt} (hev : H.ev = a) (hnv : H.nv = b) (hiv : H.iv = v) (hP : dS W1 [a, b] p) (hI : dU C W1 v (l.map Prod.snd)) (hpv : lz (p.nodes.take j) l) (hfit : tc (p.nodes.take j) n) (hNA : bS W1 L n) (hvf : (aG n).length <= 2097152)
  (hty : aJ W1.heap.size W8 H kv t') (hnt : jk ⟨fS p, bl l⟩ n = .inl t') (hb : Below W1.heap.size W1 W8) :
  Calls prog 15 #[.pointer (some ⟨H.N, 0, none⟩), .agg L.toArray] W8 (λ e w' => ∃ L', e = .returned (.agg L'.toArray) /\ kE W8.heap.size w' L' (oq t' n) /\ Below W1.heap.size W8 w') /\ l5 n (oq t' n) := by
 have h6 : ∀ i ∈ n.items, i.eq.names.length <= 6 := λ i hi => (hfit.names i hi).2
 have hfi : kF n.funs (eN n.funs (cz .new (aG n)) n.items).funs := DY n.items _ h6 hfit.right (by
  rw [(pz (aG n) TSt.new).2.1]; exact ⟨λ p hp => absurd hp List.not_mem_nil, List.nodup_nil⟩)
 obtain ⟨hl, hf⟩ := xW (cx := ⟨fS p, bl l⟩) (D := 84) (zh hev hnv hiv hP hI hpv).small h6 hnt; have hfi' : kF n.funs t'.funs := (by rw [hf]; exact hfi); have hsg := sH hfi' hfit.few.1; unfold da at hsg; have hvb := (sK hfit).2; have hfw := hfit.few; have hks : t'.ks.Ok := by
  obtain ⟨E, ρ, hk⟩ := hty.knot; exact hk.good.ok
 exact ⟨xg hty hb.size hb (Nat.le_refl _) hNA (λ W hW => uu hNA hvf W hW) (qw hfi' (by rw [hf]; exact hl) hfit.funs) zO hfw.1, FQ hks hfi' hfw⟩
end
theorem sC {w0 : World} {L : List Value} {p : cg} (hL : dS w0 L p) (hp : eZ p <= 1048576) : ∀ w, Below w0.heap.size w0 w -> Calls prog 5 #[.agg L.toArray] w (dQ p w) := by
 intro w hb; have HCK := zH (B0 true hL (CY hp)); have HP := zH hL; have HW := zH hp; have HB := zH hb; have hsz := hb.size; obtain ⟨ev, nv, rfl, he, hn⟩ := hL; obtain ⟨Ae, ne, ce, rfl⟩ := ak.shape he; have HNS := zH hn; obtain ⟨An, cn, rfl, hcc, hcm, hce⟩ := hn; have hnl : p.nodes.length <= 9223372036854775807 := (by unfold maxLen at hcm; omega); have HCE := zH hce; have hal := zA w (.cells #[.slice Ae ne ce, .slice An p.nodes.length cn] 25); have hal2 := hal.alloc (by simp) (.cells #[.int .i64 0, .int .i64 0, .int .i64 0] 30); have HAL := zH hal2; have BE := zH (az (o := .cells #[.int .i64 0, .int .i64 0, .int .i64 0] 30) (heap_alloc_new w (.cells #[.slice Ae ne ce, .slice An p.nodes.length cn] 25))); have BR := zH (bh (w := w.alloc (.cells #[.slice Ae ne ce, .slice An p.nodes.length cn] 25)) (o := .cells #[.int .i64 0, .int .i64 0, .int .i64 0] 30) (n := w.heap.size + 1) (by simp)); have HCC := zH (HCK.o _ (hb.trans (hal2.mono hsz))); obtain ⟨p0, p1⟩ := bb BE.o; obtain ⟨R, hR⟩ : ∃ R, R = w.heap.size + 1 := ⟨_, rfl⟩; have HRW := zH hR; rw [<- hR] at BR; clear hR; clear hb hp he hcc hcm hce hal hal2; by_cases hc0 : (cO true p).1 = 0
 . have hck : cO true p = (0, 0, 0) := (fT hc0).1; have HCQ := zH hck; rw [hck] at HCC; clear hc0 hck; cases hsg : p.nodes.any f7 with
   | true =>
     have HQ := zH (show dR (fS p) p = ([], (1, 0, 0)) by unfold dR; rw [if_pos HCQ.o, if_pos hsg]); go_enter func5, ntmps5
     go_wp2_with (first
      | (go_at_call 10; (with_reducible refine HCC.o.mono ?_); rintro e w1 ⟨rfl, hb1⟩; obtain ⟨V1, rfl⟩ := zW w1; have hal1 := zA V1 (.cells #[.int .i64 0, .int .i64 0, .int .i64 0] 30); have HB1 := zH ((HAL.o.trans (hb1.mono HAL.o.size)).trans (hal1.mono (Nat.le_trans HAL.o.size hb1.size))); have BE1 := zH ((hal1.block _ (by have := ab BE.o; have := hb1.size; omega)).trans ((hb1.block _ (ab BE.o)).trans BE.o)); have BR1 := zH ((hal1.block _ (by have := ab BR.o; have := hb1.size; omega)).trans ((hb1.block _ (ab BR.o)).trans BR.o)); obtain ⟨e0, e1⟩ := bb BE1.o; have HSG := zH (mh HNS.o _ (HB.o.trans (HB1.o.mono hsz))); rw [hsg] at HSG; clear hb1 hal1)
      | (go_at_call 11; (with_reducible refine HSG.o.mono ?_); rintro e w2 ⟨rfl, hb2⟩; obtain ⟨V2, rfl⟩ := zW w2; have HB2 := zH (HB1.o.trans (hb2.mono HB1.o.size)); have BR2 := zH ((hb2.block _ (ab BR1.o)).trans BR1.o); obtain ⟨r0, r1, r2⟩ := bo BR2.o; have f0 := bc BR2.o 0; have s1 := heap_setCell_same V2 R 0 _ _ (.int .i64 1) BR2.o; have s2 := heap_setCell_same _ R 1 _ _ (.int .i64 0) s1; have HXX := zH (heap_setCell_same _ R 2 _ _ (.int .i64 0) s2); obtain ⟨_, y1, _⟩ := bo s1; have f1 := bc s1 1; obtain ⟨_, _, y2⟩ := bo s2; have f2 := bc s2 2; have HBX := zH ((((HB2.o.setCell (p := ⟨R, 0, none⟩) (by have := HRW.o; simp; omega) (.int .i64 1)).setCell (p := ⟨R, 1, none⟩) (by have := HRW.o; simp; omega) (.int .i64 0)).setCell (p := ⟨R, 2, none⟩) (by have := HRW.o; simp; omega) (.int .i64 0))); rw [HRW.o] at r0 r1 r2 f0 y1 f1 y2 f2 HXX HBX; clear hb2 s1 s2))
     refine bodyPost_ret (fY rfl rfl HXX.o) rfl (dQ.bad HQ.o HBX.o)
   | false =>
     have HSB := zH (show dR (fS p) p = b9 (fS p) 0 [] p.nodes by unfold dR; rw [if_pos HCQ.o, if_neg (by rw [hsg]; decide)]); have HSG0 := zH hsg; go_enter func5, ntmps5
     go_wp2_with (first
      | (go_at_call 10; (with_reducible refine HCC.o.mono ?_); rintro e w1 ⟨rfl, hb1⟩; obtain ⟨V1, rfl⟩ := zW w1; have hal1 := zA V1 (.cells #[.int .i64 0, .int .i64 0, .int .i64 0] 30); have HB1 := zH ((HAL.o.trans (hb1.mono HAL.o.size)).trans (hal1.mono (Nat.le_trans HAL.o.size hb1.size))); have BE1 := zH ((hal1.block _ (by have := ab BE.o; have := hb1.size; omega)).trans ((hb1.block _ (ab BE.o)).trans BE.o)); have BR1 := zH ((hal1.block _ (by have := ab BR.o; have := hb1.size; omega)).trans ((hb1.block _ (ab BR.o)).trans BR.o)); obtain ⟨e0, e1⟩ := bb BE1.o; have HSG := zH (mh HNS.o _ (HB.o.trans (HB1.o.mono hsz))); rw [hsg] at HSG; clear hb1 hal1)
      | (go_at_call 11; (with_reducible refine HSG.o.mono ?_); rintro e w2 ⟨rfl, hb2⟩; obtain ⟨V2, rfl⟩ := zW w2; have HB2 := zH (HB1.o.trans (hb2.mono HB1.o.size)); have BR2 := zH ((hb2.block _ (ab BR1.o)).trans BR1.o); have BE2 := zH ((hb2.block _ (ab BE1.o)).trans BE1.o); obtain ⟨e0, e1⟩ := bb BE2.o; clear hb2))
     rw [<- HRW.o]; clear e0 e1; go_loopg [5, 24] p.nodes.length (λ g ov v wr => ∃ j : Nat, j + g = p.nodes.length /\ v = .int .i64 j /\ ∃ l : List (Tx × bz), dU w.heap.size wr ov (l.map Prod.snd) /\ lz (p.nodes.take j) l /\ b9 (fS p) 0 [] p.nodes = b9 (fS p) j l (p.nodes.drop j) /\ wr.heap[w.heap.size]? = some (.cells #[.slice Ae ne ce, .slice An p.nodes.length cn] 25 (0, 0)) /\ wr.heap[R]? = some (.cells #[.int .i64 0, .int .i64 0, .int .i64 0] 30 (0, 0)) /\ Below w.heap.size w wr)
     case atStart => exact ⟨0, by omega, rfl, [], aS.nil _, ⟨rfl, λ i n x h => by simp at h⟩, rfl, BE2.o, BR2.o, HB2.o⟩
     case round =>
      obtain ⟨j, hjg, rfl, l, hown, hpv, hinf, hbe, hbr, hbw⟩ := hrel; obtain ⟨wz, rfl⟩ := zW wr; have HK := zH hjg; have HO := zH hown; have HPV := zH hpv; have HIN := zH hinf; have BEZ := zH hbe; have BRZ := zH hbr; have HBZ := zH hbw; have HBWZ := zH (HB.o.trans (hbw.mono hsz)); have hjl : j <= p.nodes.length := zO; have hll : l.length = j := (by have h1 := congrArg List.length hpv.names; rw [List.length_map, List.length_map, List.length_take, Nat.min_eq_left hjl] at h1; exact h1); obtain ⟨A5, n5, c5, rfl, hn5⟩ := hown.shape; rw [List.length_map, hll] at hn5; subst hn5; have HLL := zH hll; clear hjg hown hpv hinf hbe hbr hbw hll; by_cases hlt : n5 < p.nodes.length
      . obtain ⟨n, hn⟩ := zG hlt; have hfit := BW HCQ.o HW.o HSG0.o n5 n hn; have HDR := zH (bw hn)
        have HTN := zH (show p.nodes.take (n5 + 1) = p.nodes.take n5 ++ [n] by
         obtain ⟨_, rfl⟩ := List.getElem?_eq_some_iff.1 hn; rw [List.take_succ_eq_append_getElem hlt])
        obtain ⟨Ln, hEn, hNA⟩ := HCE.o n5 n hn; have hvf := Cs HW.o (List.mem_of_getElem? hn); have hW1 : ∃ W1, W1 = wz.alloc (.cells Ln.toArray 53) := ⟨_, rfl⟩; obtain ⟨s0, a1, m1, k1, a2, m2, k2, a3, m3, k3, a4, m4, k4, rfl⟩ := hNA.shape; obtain ⟨x1, ex1, _, _, d0, d1, d2, d3, d4⟩ := eh (hEn.under HBWZ.o); subst ex1; have hal1 := zA wz (.cells #[.string s0, .slice a1 m1 k1, .slice a2 m2 k2, .slice a3 m3 k3, .slice a4 m4 k4] 53); have HAL1 := zH hal1; have BE3 := zH ((hal1.block _ (ab BEZ.o)).trans BEZ.o); have BR3 := zH ((hal1.block _ (ab BRZ.o)).trans BRZ.o); have BN3 := zH (heap_alloc_new wz (.cells #[.string s0, .slice a1 m1 k1, .slice a2 m2 k2, .slice a3 m3 k3, .slice a4 m4 k4] 53)); have HB3 := zH (HBZ.o.trans (hal1.mono HBZ.o.size)); have HBW3 := zH (HBWZ.o.trans (hal1.mono HBWZ.o.size)); have HO3 := zH (HO.o.under hal1); have HP3 := zH (HP.o.under HBW3.o); have HNA3 := zH (hNA.under HBW3.o); obtain ⟨e0, e1⟩ := bb BE3.o; obtain ⟨g0, g1, g2, g3, g4⟩ := aW BN3.o; have HFIT := zH hfit; have HVF := zH hvf; have HNN := zH hn; clear hn hEn hNA hfit hvf hW1 hal1; have HNT := zH (rp (w := (wz.alloc (.cells #[.string s0, .slice a1 m1 k1, .slice a2 m2 k2, .slice a3 m3 k3, .slice a4 m4 k4] 53))) (a := .slice Ae ne ce) (b := .slice (some x1) p.nodes.length cn) (Ac := A5) (nc := n5) (kc := c5)); cases hnt : jk ⟨fS p, bl l⟩ n with
        | inr b =>
          have HDT := zH (show b9 (fS p) 0 [] p.nodes = ([], (5, (n5 : Int), b)) by rw [HIN.o, HDR.o, b9, hnt])
          go_wp2_with (first
           | (go_at_call 13; (with_reducible refine HNT.o.mono ?_); rintro e w8 ⟨H, kv, rfl, hev, hnv, hiv, hty, hne, hBV, hBF, hb8⟩; obtain ⟨V8, rfl⟩ := zW w8; have HAN := zH (qY (C := w.heap.size) hev hnv hiv HP3.o HW.o HO3.o HPV.o HFIT.o HNA3.o HVF.o hty hne hBV hBF hb8); rw [hnt] at HAN; have HEV := zH hev; have HNV := zH hnv; have HIV := zH hiv; have HB8 := zH hb8; have BE8 := zH ((hb8.block _ (ab BE3.o)).trans BE3.o); have BR8 := zH ((hb8.block _ (ab BR3.o)).trans BR3.o); obtain ⟨g0, g1, g2, g3, g4⟩ := aW ((hb8.block _ (ab BN3.o)).trans BN3.o); clear hev hnv hiv hty hne hBV hBF hb8)
           | (go_at_call 14; (with_reducible refine HAN.o.mono ?_); rintro e w9 ⟨hb9, he9⟩; have he9 : e = .returned (.tuple #[.int .i64 b, .bool false]) := he9; subst he9; obtain ⟨V9, rfl⟩ := zW w9; have hb19 := HB8.o.trans hb9; have HB9 := zH (HB3.o.trans (hb19.mono HB3.o.size)); have BR9 := zH ((hb19.block _ (ab BR3.o)).trans BR3.o); obtain ⟨r0, r1, r2⟩ := bo BR9.o; have f0 := bc BR9.o 0; have s1 := heap_setCell_same V9 R 0 _ _ (.int .i64 5) BR9.o; have s2 := heap_setCell_same _ R 1 _ _ (.int .i64 (n5 : Int)) s1; have HXX := zH (heap_setCell_same _ R 2 _ _ (.int .i64 b) s2); obtain ⟨_, y1, _⟩ := bo s1; have f1 := bc s1 1; obtain ⟨_, _, y2⟩ := bo s2; have f2 := bc s2 2; have HBX := zH ((((HB9.o.setCell (p := ⟨R, 0, none⟩) (by have := HRW.o; simp; omega) (.int .i64 5)).setCell (p := ⟨R, 1, none⟩) (by have := HRW.o; simp; omega) (.int .i64 (n5 : Int))).setCell (p := ⟨R, 2, none⟩) (by have := HRW.o; simp; omega) (.int .i64 b))); clear s1 s2 hb9 hb19))
          refine bodyPost_ret (fY rfl rfl HXX.o) rfl (dQ.bad (HSB.o.trans HDT.o) HBX.o)
        | inl t' =>
          have HDT := zH (show b9 (fS p) 0 [] p.nodes = b9 (fS p) ((n5 + 1 : Nat) : Int) (l ++ [(n.name, oq t' n)]) (p.nodes.drop (n5 + 1)) by rw [HIN.o, HDR.o, b9, hnt]; rfl)
          have HFL := zH (show (l.map Prod.snd).length <= 4194303 by
           have h1 := HLL.o; have h2 := (nF (fT (made := true) (p := p) (by rw [HCQ.o])).2.1).2; rw [List.length_map]; omega)
          go_wp2_with (first
           | (go_at_call 13; (with_reducible refine HNT.o.mono ?_); rintro e w8 ⟨H, kv, rfl, hev, hnv, hiv, hty, hne, hBV, hBF, hb8⟩; obtain ⟨V8, rfl⟩ := zW w8; have HAN := zH (qY (C := w.heap.size) hev hnv hiv HP3.o HW.o HO3.o HPV.o HFIT.o HNA3.o HVF.o hty hne hBV hBF hb8); rw [hnt] at HAN; have HEV := zH hev; have HNV := zH hnv; have HIV := zH hiv; have HB8 := zH hb8; have BE8 := zH ((hb8.block _ (ab BE3.o)).trans BE3.o); have BR8 := zH ((hb8.block _ (ab BR3.o)).trans BR3.o); obtain ⟨g0, g1, g2, g3, g4⟩ := aW ((hb8.block _ (ab BN3.o)).trans BN3.o); clear hev hnv hiv hty hne hBV hBF hb8)
           | (go_at_call 14; (with_reducible refine HAN.o.mono ?_); rintro e w9 ⟨hb9, he9⟩; obtain ⟨he9, kv9, ht9⟩ : e = .returned (.tuple #[.int .i64 0, .bool true]) /\ ∃ kv', aJ (wz.alloc (.cells #[.string s0, .slice a1 m1 k1, .slice a2 m2 k2, .slice a3 m3 k3, .slice a4 m4 k4] 53)).heap.size w9 H kv' t' := he9; subst he9; obtain ⟨V9, rfl⟩ := zW w9; have hb19 := HB8.o.trans hb9; have HB19 := zH hb19; have HIT := zH (FR (C := w.heap.size) HEV.o HNV.o HIV.o HP3.o HO3.o HPV.o HFIT.o HNA3.o HVF.o ht9 hnt hb19); have BE9 := zH ((hb19.block _ (ab BE3.o)).trans BE3.o); have BR9 := zH ((hb19.block _ (ab BR3.o)).trans BR3.o); obtain ⟨g0, g1, g2, g3, g4⟩ := aW ((hb19.block _ (ab BN3.o)).trans BN3.o); clear hb9 hb19 ht9)
           | (go_at_call 15; (with_reducible refine HIT.o.1.mono ?_); rintro e w10 ⟨L', rfl, hi10, hb10⟩; obtain ⟨V10, rfl⟩ := zW w10; have hb110 := HB19.o.trans hb10; have hal := zA V10 (.cells L'.toArray 41); have hb111 := hb110.trans (hal.mono hb110.size); have HB11 := zH (HB3.o.trans (hb111.mono HB3.o.size)); have HX11 := zH (kE.under (kE.low hi10 (Nat.le_trans HB3.o.size HB19.o.size)) hal); have HO11 := zH (HO3.o.under hb111); have BE11 := zH ((hb111.block _ (ab BE3.o)).trans BE3.o); have BR11 := zH ((hb111.block _ (ab BR3.o)).trans BR3.o); obtain ⟨q1, q2, q3, q4, rfl, k1, k2, k3, k4⟩ := hi10; obtain ⟨B1, m1', c1', rfl, -⟩ := k1.shape; obtain ⟨B2, m2', c2', rfl, -⟩ := k2.shape; obtain ⟨B3, m3', c3', rfl, -⟩ := k3.shape; obtain ⟨B4, m4', c4', rfl, -⟩ := k4.shape; clear hb10 hb110 hal hb111 k1 k2 k3 k4)
           | (at_builtin
              refine uf underlying27 DI rfl zD zD DG DF rfl _ _ rfl rfl rfl (heap_alloc_new _ _) HX11.o HO11.o HFL.o HB11.o.size ?_; intro v12 w12 h12 g12; obtain ⟨V12, rfl⟩ := zW w12; have hk12 : bs 41 _ V12 := bs.grown HO11.o g12; have HO12 := zH (dU.grownTo h12 hk12); have BE12 := zH (hk12.cells BE11.o zD); have BR12 := zH (hk12.cells BR11.o zD); have HB12 := zH (HB11.o.grown g12 HB11.o.size (λ g hg => (HO11.o.blk hg).1)); obtain ⟨B6, m6, c6, rfl, hm6⟩ := h12.shape; have HM6 := zH hm6; clear h12 g12 hk12 hm6))
          go_roundg (p.nodes.length - (n5 + 1))
          case measure => have := HK.o; omega
          case rel => exact ⟨n5 + 1, by omega, by go_num, l ++ [(n.name, oq t' n)], by rw [List.map_append]; exact HO12.o, by rw [HTN.o]; exact HPV.o.snoc HIT.o.2, HDT.o, BE12.o, BR12.o, HB12.o⟩
      . have hje : n5 = p.nodes.length := by omega
        have HIE := zH (show b9 (fS p) 0 [] p.nodes = (l.map Prod.snd, (0, 0, 0)) by rw [HIN.o, hje, List.drop_length]; rfl); have HOE := zH HO.o; obtain ⟨r0, r1, r2⟩ := bo BRZ.o; have f0 := bc BRZ.o 0; have s1 := heap_setCell_same wz R 0 _ _ (.int .i64 0) BRZ.o; have s2 := heap_setCell_same _ R 1 _ _ (.int .i64 0) s1; have HXX := zH (heap_setCell_same _ R 2 _ _ (.int .i64 0) s2); obtain ⟨_, y1, _⟩ := bo s1; have f1 := bc s1 1; obtain ⟨_, _, y2⟩ := bo s2; have f2 := bc s2 2; have HKT := zH (show bs 30 wz _ from ⟨_, ((((ba.refl (· = R) wz).set (a := ⟨R, 0, none⟩) (.inl rfl) (.int .i64 0)).set (a := ⟨R, 1, none⟩) (.inl rfl) (.int .i64 0)).set (a := ⟨R, 2, none⟩) (.inl rfl) (.int .i64 0)), λ b hb => ⟨#[.int .i64 0, .int .i64 0, .int .i64 0], by rw [show b = R from hb]; exact BRZ.o⟩⟩); have HBX := zH ((((HBZ.o.setCell (p := ⟨R, 0, none⟩) (by have := HRW.o; simp; omega) (.int .i64 0)).setCell (p := ⟨R, 1, none⟩) (by have := HRW.o; simp; omega) (.int .i64 0)).setCell (p := ⟨R, 2, none⟩) (by have := HRW.o; simp; omega) (.int .i64 0))); clear s1 s2 hje; go_wp2_with fail
        refine bodyPost_ret (fY rfl rfl HXX.o) rfl ?_; unfold dQ; rw [HSB.o, HIE.o]; exact ⟨_, rfl, dU.keptB HOE.o HKT.o zD zD zD zD, HBX.o⟩
 . have HQ := zH (show dR (fS p) p = ([], cO true p) by unfold dR; rw [if_neg (λ h => hc0 (by rw [h]))]); have q0 : ((cO true p).1 != 0) = true := (by simpa using hc0); clear hc0; generalize cO true p = r at *; go_enter func5, ntmps5
   go_wp2_with (go_at_call 10
                (with_reducible refine HCC.o.mono ?_); rintro e w1 ⟨rfl, hb1⟩; obtain ⟨V1, rfl⟩ := zW w1; have hal1 := zA V1 (.cells #[.int .i64 r.1, .int .i64 r.2.1, .int .i64 r.2.2] 30); have HB1 := zH ((HAL.o.trans (hb1.mono HAL.o.size)).trans (hal1.mono (Nat.le_trans HAL.o.size hb1.size))); have BR1 := zH ((hal1.block _ (by have := ab BR.o; have := hb1.size; omega)).trans ((hb1.block _ (ab BR.o)).trans BR.o)); have BF1 := zH (heap_alloc_new V1 (.cells #[.int .i64 r.1, .int .i64 r.2.1, .int .i64 r.2.2] 30)); have HRV := zH (show R < V1.heap.size by have := ab BR.o; have := hb1.size; omega); obtain ⟨t0, t1, t2⟩ := bo BF1.o; clear hb1 hal1)
   have KT := zH (show (λ W : World => W.cell? ⟨V1.heap.size, 0, none⟩ = some (.int .i64 r.1) /\ W.cell? ⟨V1.heap.size, 1, none⟩ = some (.int .i64 r.2.1) /\ W.cell? ⟨V1.heap.size, 2, none⟩ = some (.int .i64 r.2.2)) (V1.alloc (.cells #[.int .i64 r.1, .int .i64 r.2.1, .int .i64 r.2.2] 30)).drew from ⟨t0, t1, t2⟩); rw [<- HRW.o]; refine wp_region_held_drew (S := (λ W : World => W.cell? ⟨V1.heap.size, 0, none⟩ = some (.int .i64 r.1) /\ W.cell? ⟨V1.heap.size, 1, none⟩ = some (.int .i64 r.2.1) /\ W.cell? ⟨V1.heap.size, 2, none⟩ = some (.int .i64 r.2.2))) zK ?_ (λ hHeld => ?_)
   . exact KT.o
   refine aa 0 ?_; refine aa 1 ?_; have BRD := zH (show (V1.alloc (.cells #[.int .i64 r.1, .int .i64 r.2.1, .int .i64 r.2.2] 30)).drew.heap[R]? = some (.cells #[.int .i64 0, .int .i64 0, .int .i64 0] 30 (0, 0)) from BR1.o); have BFD := zH (show (V1.alloc (.cells #[.int .i64 r.1, .int .i64 r.2.1, .int .i64 r.2.2] 30)).drew.heap[V1.heap.size]? = some (.cells #[.int .i64 r.1, .int .i64 r.2.1, .int .i64 r.2.2] 30 (0, 0)) from BF1.o); have HBD := zH HB1.o.drew; clear BR1 BF1 HB1 KT t0 t1 t2 hHeld; generalize (V1.alloc (.cells #[.int .i64 r.1, .int .i64 r.2.1, .int .i64 r.2.2] 30)).drew = V2 at *; obtain ⟨r0, r1, r2⟩ := bo BRD.o; have f0 := bc BRD.o 0; have s1 := heap_setCell_same V2 R 0 _ _ (.int .i64 r.1) BRD.o; have s2 := heap_setCell_same _ R 1 _ _ (.int .i64 r.2.1) s1; have HXX := zH (heap_setCell_same _ R 2 _ _ (.int .i64 r.2.2) s2); obtain ⟨_, y1, _⟩ := bo s1; have f1 := bc s1 1; obtain ⟨_, _, y2⟩ := bo s2; have f2 := bc s2 2; have hkp := ((((ba.refl (· = R) V2).set (a := ⟨R, 0, none⟩) (.inl rfl) (.int .i64 r.1)).set (a := ⟨R, 1, none⟩) (.inl rfl) (.int .i64 r.2.1)).set (a := ⟨R, 2, none⟩) (.inl rfl) (.int .i64 r.2.2)); have HBX := zH ((((HBD.o.setCell (p := ⟨R, 0, none⟩) (by have := HRW.o; simp; omega) (.int .i64 r.1)).setCell (p := ⟨R, 1, none⟩) (by have := HRW.o; simp; omega) (.int .i64 r.2.1)).setCell (p := ⟨R, 2, none⟩) (by have := HRW.o; simp; omega) (.int .i64 r.2.2))); refine aq 2 zK rfl (λ K hK => ?_); go_simp
   obtain ⟨t0, t1, t2⟩ := bo (hkp.heap BFD.o (λ e => by have := HRV.o; have e : V1.heap.size = R := e; omega)); refine hK.out _ _ ⟨t0, t1, t2⟩ (λ hHeld => ?_); clear hK K s1 s2 hkp; try simp only [Act.put]
   refine wpAnyH_done zK ?_ _; go_wp2_with fail
   refine bodyPost_ret (fY rfl rfl HXX.o) rfl (dQ.bad HQ.o HBX.o)
end Go.Proofs.YtiholfmmphcbeaaGreatDoor
