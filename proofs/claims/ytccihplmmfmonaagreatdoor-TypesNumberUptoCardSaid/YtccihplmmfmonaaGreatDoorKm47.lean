import Derived.IntWalk
import Derived.Test.YtccihplmmfmonaaGreatDoorKm46
set_option maxHeartbeats 8000000
set_option maxRecDepth 100000
namespace Go.Proofs.YtccihplmmfmonaaGreatDoor
open _root_.Go.Proofs.Tryz
open Go.RowKit
def zl (b : Bool) (w : World) (e : Ending) (w' : World) : Prop := (∃ n : Int, e = .returned (.int .i64 n) /\ decide (0 <= n) = b) /\ Below w.heap.size w w'
theorem lU {X : Type} {l : List X} {k : Nat} {x : X} (h : l[k]? = some x) : l.drop k = x :: l.drop (k + 1) := bt h
theorem wd {w0 : World} {va : Value} {ks : List Ex} {f : Ex -> Bool} (ha : an w0 (bL w0) va ks) {g : FuncId} {cap : Array Value} (eg : ∀ (args : Array Value) (W : World), (callFunc g args).run prog W = .ok (.enter g args) W)
  (hf : ∀ x ∈ ks, ∀ L, bL w0 L x -> ∀ w, Below w0.heap.size w0 w -> Calls prog g (#[.agg L.toArray] ++ cap) w (ar (f x) w)) :
  ∀ w, Below w0.heap.size w0 w -> Calls prog 95 #[va, .func (.func g) #[] cap] w (zl (ks.any f) w) := by
 intro w hw; obtain ⟨A, ca, rfl, hca, hma, hea⟩ := ha; have hla : ks.length <= 9223372036854775807 := (by unfold maxLen at hma; omega); have HW0 := zH hw; have hsz0 := hw.size; clear hw hca hma; go_enter func95, ntmps95
 go_wp2_with fail
 go_loopg [8] ks.length (λ g v wr => ∃ k : Nat, k + g = ks.length /\ v = .int .i64 k /\ ks.any f = (ks.drop k).any f /\ Below w.heap.size w wr)
 case atStart => exact ⟨0, by omega, rfl, rfl, Below.refl _ _⟩
 case round =>
  obtain ⟨k, hkg, rfl, hto, hbw⟩ := hrel; have HK := zH hkg; have HW := zH hbw; have HT := zH hto; have hszw := hbw.size; have hkl : k <= ks.length := zO; clear hkg hbw hto; by_cases hlt : k < ks.length
  . obtain ⟨y, hy⟩ := zG hlt; obtain ⟨L, hEM, hxl⟩ := hea k y hy; have HF := zH (hf y (List.mem_of_getElem? hy) L hxl); have HB0 := zH (HW0.o.trans (HW.o.mono hsz0)); have HD := zH (show (ks.drop k).any f = (f y || (ks.drop (k + 1)).any f) by rw [lU hy, List.any_cons]); obtain ⟨o1, s1, n1, A1, m1, k1, A2, m2, k2, rfl⟩ := hxl.shape; obtain ⟨a, rfl, hab, haa, d0, d1, d2, d3, d4⟩ := d8 (hEM.under HB0.o); clear hEM hea hf hy hxl; cases hfx : f y
    . have HFX := zH hfx; rw [hfx] at HF; clear hfx; go_wp2_with (go_at_fn g; refine (HF.o _ HB0.o).mono ?_; rintro e w1 ⟨rfl, hb1⟩)
      go_roundg (ks.length - (k + 1))
      case measure => have := HK.o; omega
      case rel => exact ⟨k + 1, by omega, by go_num, by rw [HT.o, HD.o, HFX.o]; rfl, HW.o.trans (hb1.mono zO)⟩
    . have HFX := zH hfx; rw [hfx] at HF; clear hfx; go_wp2_with (go_at_fn g; refine (HF.o _ HB0.o).mono ?_; rintro e w1 ⟨rfl, hb1⟩)
      go_ret; exact ⟨⟨_, rfl, by rw [HT.o, HD.o, HFX.o]; simp⟩, HW.o.trans (hb1.mono zO)⟩
  . have hke : k = ks.length := by omega
    have HKE := zH hke; clear hke; go_wp2_with fail
    go_ret; exact ⟨⟨_, rfl, by rw [HT.o, List.drop_of_length_le (by rw [HKE.o]; exact Nat.le_refl _)]; rfl⟩, HW.o⟩
theorem qR {w0 : World} {va : Value} {ks : List Ex} {f : Ex -> Bool} (ha : an w0 (bL w0) va ks) {g : FuncId} {cap : Array Value} (eg : ∀ (args : Array Value) (W : World), (callFunc g args).run prog W = .ok (.enter g args) W)
  (hf : ∀ x ∈ ks, ∀ L, bL w0 L x -> ∀ w, Below w0.heap.size w0 w -> Calls prog g (#[.agg L.toArray] ++ cap) w (ar (f x) w)) :
  ∀ w, Below w0.heap.size w0 w -> Calls prog 51 #[va, .func (.func g) #[] cap] w (ar (ks.any f) w) := by
 intro w hw; have H := zH (wd ha eg hf w hw); obtain ⟨A, ca, rfl, _⟩ := ha; clear hf hw; go_enter func51, ntmps51
 go_wp2_with (go_at_call 95; refine H.o.mono ?_; rintro e w1 ⟨⟨n, rfl, hn⟩, hb1⟩; have HN := zH hn; clear hn)
 go_ret; exact ⟨ah HN.o, hb1⟩
theorem qy (l : List Ex) : gV l = l.any dK := by
 induction l with
 | nil => rw [gV]; rfl
 | cons x r ih => rw [gV, List.any_cons, ih]
theorem ud : ∀ x : Ex, ∀ (w0 : World) (L : List Value), bL w0 L x -> ∀ w, Below w0.heap.size w0 w -> Calls prog 24 #[.agg L.toArray] w (ar (dK x) w) := by
 refine Ex.ind λ op nm m cs ks ih => ?_; intro w0 L hx w hb; obtain ⟨cv, kk, rfl, _, _, _, hcs, hkk⟩ := hx.open_; obtain ⟨Ac, ncs, cc, rfl⟩ := an.shape hcs; obtain ⟨Ak, nks, ck, rfl⟩ := an.shape hkk; have hal := zA w (.cells #[.int .i64 op, .string (str nm), .int .i64 m, .slice Ac ncs cc, .slice Ak nks ck] 76); have HAL := zH hal; have HC := zH (qR (f := dK) hkk (g := 24) (cap := #[]) (λ args W => by kernel_rfl) (λ x hxk L hL w hw => ih x hxk w0 L hL w hw) _ (hb.trans (hal.mono hb.size))); have HQ := zH (show dK (.mk op nm m cs ks) = (op == 13 || ks.any dK) by rw [dK, qy]); obtain ⟨p0, p1, p2, p3, p4⟩ := aV (heap_alloc_new w (.cells #[.int .i64 op, .string (str nm), .int .i64 m, .slice Ac ncs cc, .slice Ak nks ck] 76)); clear hx hb hcs hkk hal ih; by_cases h13 : op = 13
 . subst h13; go_enter func24, ntmps24
   go_wp2_with fail
   go_ret; exact ⟨by rw [HQ.o]; rfl, HAL.o⟩
 . have q13 : (op == 13) = false := by simpa using h13
   go_enter func24, ntmps24
   go_wp2_with (go_at_call 51
                (with_reducible refine HC.o.mono ?_); rintro e w1 ⟨rfl, hb1⟩)
   go_ret; exact ⟨by rw [HQ.o, q13]; rfl, HAL.o.trans (hb1.mono HAL.o.size)⟩
theorem wc {w0 : World} {va : Value} {ks : List bd} {f : bd -> Bool} (ha : an w0 (dv w0) va ks) {g : FuncId} {cap : Array Value} (eg : ∀ (args : Array Value) (W : World), (callFunc g args).run prog W = .ok (.enter g args) W)
  (hf : ∀ x ∈ ks, ∀ L, dv w0 L x -> ∀ w, Below w0.heap.size w0 w -> Calls prog g (#[.agg L.toArray] ++ cap) w (ar (f x) w)) :
  ∀ w, Below w0.heap.size w0 w -> Calls prog 50 #[va, .func (.func g) #[] cap] w (zl (ks.any f) w) := by
 intro w hw; obtain ⟨A, ca, rfl, hca, hma, hea⟩ := ha; have hla : ks.length <= 9223372036854775807 := (by unfold maxLen at hma; omega); have HW0 := zH hw; have hsz0 := hw.size; clear hw hca hma; go_enter func50, ntmps50
 go_wp2_with fail
 go_loopg [8] ks.length (λ g v wr => ∃ k : Nat, k + g = ks.length /\ v = .int .i64 k /\ ks.any f = (ks.drop k).any f /\ Below w.heap.size w wr)
 case atStart => exact ⟨0, by omega, rfl, rfl, Below.refl _ _⟩
 case round =>
  obtain ⟨k, hkg, rfl, hto, hbw⟩ := hrel; have HK := zH hkg; have HW := zH hbw; have HT := zH hto; have hszw := hbw.size; have hkl : k <= ks.length := zO; clear hkg hbw hto; by_cases hlt : k < ks.length
  . obtain ⟨y, hy⟩ := zG hlt; obtain ⟨L, hEM, hxl⟩ := hea k y hy; have HF := zH (hf y (List.mem_of_getElem? hy) L hxl); have HB0 := zH (HW0.o.trans (HW.o.mono hsz0)); have HD := zH (show (ks.drop k).any f = (f y || (ks.drop (k + 1)).any f) by rw [lU hy, List.any_cons]); obtain ⟨A0, n0, k0, o1, s2, o3, A4, n4, k4, A5, n5, k5, A6, n6, k6, rfl⟩ := hxl.shape; obtain ⟨a, rfl, hab, haa, d0, d1, d2, d3, d4, d5, d6⟩ := oD (hEM.under HB0.o); clear hEM hea hf hy hxl; cases hfx : f y
    . have HFX := zH hfx; rw [hfx] at HF; clear hfx; go_wp2_with (go_at_fn g; refine (HF.o _ HB0.o).mono ?_; rintro e w1 ⟨rfl, hb1⟩)
      go_roundg (ks.length - (k + 1))
      case measure => have := HK.o; omega
      case rel => exact ⟨k + 1, by omega, by go_num, by rw [HT.o, HD.o, HFX.o]; rfl, HW.o.trans (hb1.mono zO)⟩
    . have HFX := zH hfx; rw [hfx] at HF; clear hfx; go_wp2_with (go_at_fn g; refine (HF.o _ HB0.o).mono ?_; rintro e w1 ⟨rfl, hb1⟩)
      go_ret; exact ⟨⟨_, rfl, by rw [HT.o, HD.o, HFX.o]; simp⟩, HW.o.trans (hb1.mono zO)⟩
  . have hke : k = ks.length := by omega
    have HKE := zH hke; clear hke; go_wp2_with fail
    go_ret; exact ⟨⟨_, rfl, by rw [HT.o, List.drop_of_length_le (by rw [HKE.o]; exact Nat.le_refl _)]; rfl⟩, HW.o⟩
theorem qQ {w0 : World} {va : Value} {ks : List bd} {f : bd -> Bool} (ha : an w0 (dv w0) va ks) {g : FuncId} {cap : Array Value} (eg : ∀ (args : Array Value) (W : World), (callFunc g args).run prog W = .ok (.enter g args) W)
  (hf : ∀ x ∈ ks, ∀ L, dv w0 L x -> ∀ w, Below w0.heap.size w0 w -> Calls prog g (#[.agg L.toArray] ++ cap) w (ar (f x) w)) :
  ∀ w, Below w0.heap.size w0 w -> Calls prog 22 #[va, .func (.func g) #[] cap] w (ar (ks.any f) w) := by
 intro w hw; have H := zH (wc ha eg hf w hw); obtain ⟨A, ca, rfl, _⟩ := ha; clear hf hw; go_enter func22, ntmps22
 go_wp2_with (go_at_call 50; refine H.o.mono ?_; rintro e w1 ⟨⟨n, rfl, hn⟩, hb1⟩; have HN := zH hn; clear hn)
 go_ret; exact ⟨ah HN.o, hb1⟩
def AT (i : bd) : Bool := !i.states.isEmpty || dK i.eq.e
theorem CS {w0 : World} {L : List Value} {i : bd} (hi : dv w0 L i) : ∀ w, Below w0.heap.size w0 w -> Calls prog 23 #[.agg L.toArray] w (ar (AT i) w) := by
 intro w hb; obtain ⟨L', sv, rfl, ⟨nv, L6, rfl, hnv, hX⟩, hsv⟩ := hi; obtain ⟨An, nn, cn, rfl⟩ := an.shape hnv; have HX := zH hX; obtain ⟨o1, s1, n1, A1, m1, k1, A2, m2, k2, rfl⟩ := hX.shape; obtain ⟨As, cs, rfl, hsc, hsm, _⟩ := hsv; have hsl : i.states.length <= 9223372036854775807 := (by unfold maxLen at hsm; omega); have hal := zA w (.cells #[.slice An nn cn, .int .i64 o1, .string s1, .int .i64 n1, .slice A1 m1 k1, .slice A2 m2 k2, .slice As i.states.length cs] 81); have HAL := zH hal; have HM := zH (ud i.eq.e w0 _ hX _ (hb.trans (hal.mono hb.size))); obtain ⟨p0, p1, p2, p3, p4, p5, p6⟩ := rz (heap_alloc_new w (.cells #[.slice An nn cn, .int .i64 o1, .string s1, .int .i64 n1, .slice A1 m1 k1, .slice A2 m2 k2, .slice As i.states.length cs] 81)); clear hb hX hnv hal hsc hsm; by_cases h0 : i.states = []
 . have hl : i.states.length = 0 := by rw [h0]; rfl
   have HQ := zH (show AT i = dK i.eq.e by unfold AT; rw [h0]; rfl); rw [hl] at HM HAL p6; rw [hl]; clear h0 hl hsl; go_enter func23, ntmps23
   go_wp2_with (go_at_call 24
                (with_reducible refine HM.o.mono ?_); rintro e w1 ⟨rfl, hb1⟩)
   go_ret; exact ⟨by rw [HQ.o]; rfl, HAL.o.trans (hb1.mono HAL.o.size)⟩
 . have hl : 0 < i.states.length := List.length_pos_iff.2 h0; have HQ := zH (show AT i = true by unfold AT; cases hs : i.states with | nil => exact absurd hs h0 | cons a r => rfl); clear h0; go_enter func23, ntmps23
   go_wp2_with fail
   go_ret; exact ⟨by rw [HQ.o]; rfl, HAL.o⟩
theorem uS {w0 : World} {L : List Value} {n : aA} (hL : bY w0 L n) : ∀ w, Below w0.heap.size w0 w -> Calls prog 10 #[.agg L.toArray] w (ar (gK n) w) := by
 intro w hb; obtain ⟨fv, iv, ov, xv, rfl, hnm, hfu, hin, hou, hit⟩ := hL; obtain ⟨Af, nf, cf, rfl⟩ := an.shape hfu; obtain ⟨Ai, ni, ci, rfl⟩ := an.shape hin; obtain ⟨Ao, no, co, rfl⟩ := an.shape hou; have hal := zA w (.cells #[.string (str n.name), .slice Af nf cf, .slice Ai ni ci, .slice Ao no co, xv] 54); have HAL := zH hal; have HC := zH (qQ (f := AT) hit (g := 23) (cap := #[]) (λ args W => by kernel_rfl) (λ x _ L hL w hw => CS hL w hw) _ (hb.trans (hal.mono hb.size))); obtain ⟨Ax, nx, cx, rfl⟩ := an.shape hit; obtain ⟨p0, p1, p2, p3, p4⟩ := aV (heap_alloc_new w (.cells #[.string (str n.name), .slice Af nf cf, .slice Ai ni ci, .slice Ao no co, .slice Ax nx cx] 54)); clear hb hnm hfu hin hou hit hal; go_enter func10, ntmps10
 go_wp2_with (go_at_call 22
              (with_reducible refine HC.o.mono ?_); rintro e w1 ⟨rfl, hb1⟩)
 go_ret; exact ⟨rfl, HAL.o.trans (hb1.mono HAL.o.size)⟩
theorem wb {w0 : World} {va : Value} {ks : List aA} {f : aA -> Bool} (ha : an w0 (bY w0) va ks) {g : FuncId} {cap : Array Value} (eg : ∀ (args : Array Value) (W : World), (callFunc g args).run prog W = .ok (.enter g args) W)
  (hf : ∀ x ∈ ks, ∀ L, bY w0 L x -> ∀ w, Below w0.heap.size w0 w -> Calls prog g (#[.agg L.toArray] ++ cap) w (ar (f x) w)) :
  ∀ w, Below w0.heap.size w0 w -> Calls prog 21 #[va, .func (.func g) #[] cap] w (zl (ks.any f) w) := by
 intro w hw; obtain ⟨A, ca, rfl, hca, hma, hea⟩ := ha; have hla : ks.length <= 9223372036854775807 := (by unfold maxLen at hma; omega); have HW0 := zH hw; have hsz0 := hw.size; clear hw hca hma; go_enter func21, ntmps21
 go_wp2_with fail
 go_loopg [8] ks.length (λ g v wr => ∃ k : Nat, k + g = ks.length /\ v = .int .i64 k /\ ks.any f = (ks.drop k).any f /\ Below w.heap.size w wr)
 case atStart => exact ⟨0, by omega, rfl, rfl, Below.refl _ _⟩
 case round =>
  obtain ⟨k, hkg, rfl, hto, hbw⟩ := hrel; have HK := zH hkg; have HW := zH hbw; have HT := zH hto; have hszw := hbw.size; have hkl : k <= ks.length := zO; clear hkg hbw hto; by_cases hlt : k < ks.length
  . obtain ⟨y, hy⟩ := zG hlt; obtain ⟨L, hEM, hxl⟩ := hea k y hy; have HF := zH (hf y (List.mem_of_getElem? hy) L hxl); have HB0 := zH (HW0.o.trans (HW.o.mono hsz0)); have HD := zH (show (ks.drop k).any f = (f y || (ks.drop (k + 1)).any f) by rw [lU hy, List.any_cons]); obtain ⟨s0, A1, n1, k1, A2, n2, k2, A3, n3, k3, A4, n4, k4, rfl⟩ := hxl.shape; obtain ⟨a, rfl, hab, haa, d0, d1, d2, d3, d4⟩ := d8 (hEM.under HB0.o); clear hEM hea hf hy hxl; cases hfx : f y
    . have HFX := zH hfx; rw [hfx] at HF; clear hfx; go_wp2_with (go_at_fn g; refine (HF.o _ HB0.o).mono ?_; rintro e w1 ⟨rfl, hb1⟩)
      go_roundg (ks.length - (k + 1))
      case measure => have := HK.o; omega
      case rel => exact ⟨k + 1, by omega, by go_num, by rw [HT.o, HD.o, HFX.o]; rfl, HW.o.trans (hb1.mono zO)⟩
    . have HFX := zH hfx; rw [hfx] at HF; clear hfx; go_wp2_with (go_at_fn g; refine (HF.o _ HB0.o).mono ?_; rintro e w1 ⟨rfl, hb1⟩)
      go_ret; exact ⟨⟨_, rfl, by rw [HT.o, HD.o, HFX.o]; simp⟩, HW.o.trans (hb1.mono zO)⟩
  . have hke : k = ks.length := by omega
    have HKE := zH hke; clear hke; go_wp2_with fail
    go_ret; exact ⟨⟨_, rfl, by rw [HT.o, List.drop_of_length_le (by rw [HKE.o]; exact Nat.le_refl _)]; rfl⟩, HW.o⟩
theorem qP {w0 : World} {va : Value} {ks : List aA} {f : aA -> Bool} (ha : an w0 (bY w0) va ks) {g : FuncId} {cap : Array Value} (eg : ∀ (args : Array Value) (W : World), (callFunc g args).run prog W = .ok (.enter g args) W)
  (hf : ∀ x ∈ ks, ∀ L, bY w0 L x -> ∀ w, Below w0.heap.size w0 w -> Calls prog g (#[.agg L.toArray] ++ cap) w (ar (f x) w)) :
  ∀ w, Below w0.heap.size w0 w -> Calls prog 9 #[va, .func (.func g) #[] cap] w (ar (ks.any f) w) := by
 intro w hw; have H := zH (wb ha eg hf w hw); obtain ⟨A, ca, rfl, _⟩ := ha; clear hf hw; go_enter func9, ntmps9
 go_wp2_with (go_at_call 21; refine H.o.mono ?_; rintro e w1 ⟨⟨n, rfl, hn⟩, hb1⟩; have HN := zH hn; clear hn)
 go_ret; exact ⟨ah HN.o, hb1⟩
theorem ml {w0 : World} {va : Value} {l : List aA} (ha : an w0 (bY w0) va l) : ∀ w, Below w0.heap.size w0 w -> Calls prog 9 #[va, .func (.func 10) #[] #[]] w (ar (l.any gK) w) :=
 qP (f := gK) ha (g := 10) (cap := #[]) (λ args W => by kernel_rfl) (λ _ _ _ hL w hw => uS hL w hw)
def ju (fs : List Tx) (l : List (Tx × SgE)) : Prop := (∀ p ∈ l, p.1 ∈ fs /\ p.2.ins.length <= 6 /\ p.2.outs.length <= 6) /\ (l.map Prod.fst).Nodup
theorem zs {X : Type} {l : List (Tx × X)} {s : Tx} (h : bg l s = none) : s ∉ l.map Prod.fst := by
 unfold bg at h; rw [Option.map_eq_none_iff, List.find?_eq_none] at h; intro hm; obtain ⟨p, hp, e⟩ := List.mem_map.1 hm; exact h p hp (by simpa using e)
theorem Jo {X : Type} {l : List (Tx × X)} {s : Tx} (h : s ∈ l.map Prod.fst) : bg l s ≠ none := λ e => zs e h
theorem xz {X : Type} {l : List (Tx × X)} {s : Tx} {x : X} (h : bg l s = some x) : (s, x) ∈ l := by
 unfold bg at h; obtain ⟨p, hp, rfl⟩ := Option.map_eq_some_iff.1 h; have h1 := List.mem_of_find?_eq_some hp; have h2 := List.find?_some hp; have : p.1 = s := by simpa using h2
 rw [<- this]; exact h1
theorem B8 {fs : List Tx} {op : Int} {n : Nat} {nm : Tx} {k : Nat} {t : TSt} (h : ju fs t.funs) (hn : n <= 6) (hk : op = 14 -> k <= 6) : ju fs (dn fs op n nm k t).funs := by
 unfold dn; split
 . rename_i hc; obtain ⟨h14, hin, hg⟩ := hc; show ju fs (t.funs ++ [(nm, ⟨t.news k, (t.adds k).news n⟩)]); refine ⟨λ p hp => ?_, ?_⟩
   . rcases List.mem_append.1 hp with hp | hp
     . exact h.1 p hp
     . simp at hp; subst hp; exact ⟨hin, by rw [TSt.news_len]; exact hk h14, by rw [TSt.news_len]; exact hn⟩
   . rw [List.map_append, List.nodup_append]; refine ⟨h.2, by simp, λ a ha b hb => ?_⟩; simp at hb; subst hb; intro e; subst e; exact zs hg ha
 . exact h
theorem IV {made : Bool} {fs : List Tx} : ∀ x : Ex, bG made x = true -> ∀ (t : TSt) (n : Nat), n <= 6 -> ju fs t.funs -> ju fs (eM fs n t x).funs := by
 refine Ex.ind λ op nm m cs ks ih => ?_; intro hr t n hn h; rw [bG, Bool.and_eq_true] at hr; have hs := iQ hr.1; rw [qC]; have : ∀ (l : List Ex), (∀ k ∈ l, k ∈ ks) -> ∀ (first : Bool) (t : TSt), ju fs t.funs -> ju fs (aY fs op n first t l).funs := by
  intro l; induction l with
  | nil => intro _ _ t h; exact h
  | cons k r ihr =>
    intro hl first t h; rw [aY]; exact ihr (λ k hk => hl k (by simp [hk])) _ _ (ih k (hl k (by simp)) (fZ hr.2 k (hl k (by simp))) t _ (by split <;> omega) h)
 exact this ks (λ _ h => h) _ _ (B8 h hn λ e => (hs.call e).1)
theorem yO {fs : List Tx} (l : List bd) : ∀ t : TSt, (∀ i ∈ l, i.eq.names.length <= 6) -> (∀ i ∈ l, bG true i.eq.e = true) -> ju fs t.funs -> ju fs (eB fs t l).funs := by
 induction l with
 | nil => intro t _ _ h; exact h
 | cons i r ih =>
   intro t h6 hr h; exact ih _ (λ k hk => h6 k (by simp [hk])) (λ k hk => hr k (by simp [hk])) (IV i.eq.e (hr i (by simp)) t _ (h6 i (by simp)) h)
theorem sI {X : Type} [DecidableEq X] : ∀ (l m : List X), l.Nodup -> (∀ x ∈ l, x ∈ m) -> m.length <= l.length -> m.Nodup -> ∀ x ∈ m, x ∈ l
 | [], m, _, _, hm, _, x, hx => by
   have : m = [] := List.eq_nil_of_length_eq_zero (by simpa using hm)
   rw [this] at hx; cases hx
 | a :: r, m, hl, hs, hm, hmn, x, hx => by
   rw [List.nodup_cons] at hl
   by_cases e : x = a
   . simp [e]
   . refine List.mem_cons_of_mem _ (sI r (m.erase a) hl.2 (λ y hy => ?_) ?_ (hmn.erase a) x ?_)
     . exact (List.mem_erase_of_ne (λ e => hl.1 (by rw [<- e]; exact hy))).2 (hs y (List.mem_cons_of_mem _ hy))
     . rw [List.length_erase_of_mem (hs a (by simp))]
       simp at hm
       omega
     . exact (List.mem_erase_of_ne e).2 hx
theorem qF {fs : List Tx} {l : List (Tx × SgE)} (h : ju fs l) (hl : ¬ l.length < fs.length) (hn : fs.Nodup) : ∀ f ∈ fs, bg l f ≠ none := λ f hf =>
 Jo (sI (l.map Prod.fst) fs h.2 (λ x hx => by obtain ⟨p, hp, rfl⟩ := List.mem_map.1 hx; exact (h.1 p hp).1) (by simp; omega) hn f hf)
theorem B7 {fs : List Tx} {l : List (Tx × SgE)} (h : ju fs l) {c : Tx} (hc : bg l c ≠ none) : c ∈ fs := by
 cases hg : bg l c with
 | none => exact absurd hg hc
 | some s => exact (h.1 _ (xz hg)).1
theorem Dd {cx : TCx} {made : Bool} (x : Ex) (hr : bG made x = true) (n : Nat) (h1 : 1 <= n) (ho : n = 1 ∨ x.op = 14 ∨ x.op = 15) (t : TSt) : (dw cx t n x).2.length <= n := by
 obtain ⟨op, nm, m, cs, ks⟩ := x; rw [bG, Bool.and_eq_true] at hr; have hs := iQ hr.1; by_cases h14 : op = 14
 . subst h14; rw [sq]; exact Nat.le_refl _
 by_cases h15 : op = 15
 . obtain ⟨a, b, rfl, ha⟩ := hs.every h15; rw [dw, if_neg h14, if_pos h15, qI]; obtain ⟨op', nm', m', cs', ks'⟩ := a; have : op' = 14 := ha; subst this; rw [sq]; exact Nat.le_refl _
 . rw [dw, if_neg h14, if_neg h15]; exact h1
theorem FL {ks : KS} (h : ks.Ok) (a : Int) {nums : List (Int × Int)} (hn : ∀ p ∈ nums, (Lit.int .i64 p.2).wf = true) (hl : nums.length <= 4194303) : (Lit.int .i64 (gN ks nums a).2).wf = true /\ ∀ p ∈ (gN ks nums a).1, (Lit.int .i64 p.2).wf = true := by
 unfold gN; split
 . have := sD h a; exact ⟨WalkArith.wf_i64 zO, hn⟩
 . split
   . rename_i x hx; have := kU hx; obtain ⟨p, hp, e⟩ := List.mem_map.1 this; injection e with e1 e2; injection e2 with e2 e3; exact ⟨by rw [<- e3]; exact hn p hp, hn⟩
   . have hw : (Lit.int .i64 (-((nums.length : Int) + 1))).wf = true := WalkArith.wf_i64 zO; refine ⟨hw, λ p hp => ?_⟩; rcases List.mem_append.1 hp with hp | hp
     . exact hn p hp
     . simp at hp; subst hp; exact hw
theorem py {ks : KS} (h : ks.Ok) (l : List Int) : ∀ {nums : List (Int × Int)}, (∀ p ∈ nums, (Lit.int .i64 p.2).wf = true) -> nums.length + l.length <= 4194303 -> nN (aP ks nums l).2 /\ ∀ p ∈ (aP ks nums l).1, (Lit.int .i64 p.2).wf = true := by
 induction l with
 | nil => intro nums hn _; exact ⟨λ m hm => (by cases hm), hn⟩
 | cons a r ih =>
   intro nums hn hl; rw [List.length_cons] at hl; obtain ⟨h1, h2⟩ := FL h a hn zO; have h3 := vz ks nums a; obtain ⟨h4, h5⟩ := ih h2 zO; rw [aP]; exact ⟨λ m hm => (List.mem_cons.1 hm).elim (λ e => by rw [e]; exact h1) (h4 m), h5⟩
theorem C4 {ks : KS} (h : ks.Ok) (l : List SgE) : ∀ {nums : List (Int × Int)}, (∀ p ∈ nums, (Lit.int .i64 p.2).wf = true) -> nums.length + fL l <= 4194303 -> (∀ s ∈ (aQ ks nums l).2, nN s.ins /\ nN s.outs) /\ ∀ p ∈ (aQ ks nums l).1, (Lit.int .i64 p.2).wf = true := by
 induction l with
 | nil => intro nums hn _; exact ⟨λ m hm => (by cases hm), hn⟩
 | cons s r ih =>
   intro nums hn hl; rw [fL] at hl; unfold sgN at hl; obtain ⟨h1, h2⟩ := py h s.ins hn zO; have h3 := (cD ks s.ins nums).1; obtain ⟨h4, h5⟩ := py h s.outs h2 zO; have h6 := (cD ks s.outs (aP ks nums s.ins).1).1; obtain ⟨h7, h8⟩ := ih (nums := (ll ks nums s).1) h5 (by show (aP ks (aP ks nums s.ins).1 s.outs).1.length + _ <= _; omega); rw [aQ]; exact ⟨λ m hm => (List.mem_cons.1 hm).elim (λ e => by rw [e]; exact ⟨h1, h4⟩) (h7 m), h8⟩
theorem pQ (ks : KS) (l : List SgE) : ∀ nums : List (Int × Int), fL (aQ ks nums l).2 = fL l := by
 induction l with
 | nil => intro nums; rfl
 | cons s r ih =>
   intro nums; rw [aQ, fL, fL, ih]; show sgN ⟨(aP ks nums s.ins).2, (aP ks (aP ks nums s.ins).1 s.outs).2⟩ + _ = _; unfold sgN; rw [(cD ks s.ins nums).2, (cD ks s.outs _).2]
theorem Fv (l : List SgE) (h : ∀ s ∈ l, s.ins.length <= 6 /\ s.outs.length <= 6) : fL l <= 12 * l.length := by
 induction l with
 | nil => simp [fL]
 | cons s r ih =>
   rw [fL, List.length_cons]; have h1 := h s (by simp); have h2 := ih λ s hs => h s (by simp [hs]); unfold sgN; omega
structure l6 (n : aA) (q : bk) : Prop where
 funs : q.funs.length = n.funs.length
 few : q.funs.length <= 6
 small : qN q <= 84
 sigs : ∀ s ∈ q.funs, nN s.ins /\ nN s.outs
 ins : nN q.sg.ins
 outs : nN q.sg.outs
def cw (t : TSt) (n : aA) : List SgE := n.funs.map λ s => (bg t.funs s).getD ⟨[], []⟩
theorem nX {t : TSt} {n : aA} (hf : ju n.funs t.funs) (hl : n.funs.length <= 6) : fL (cw t n) <= 72 := by
 have h1 := Fv (cw t n) λ s hs => by
  obtain ⟨f, _, rfl⟩ := List.mem_map.1 hs; cases hg : bg t.funs f with
  | none => exact ⟨Nat.zero_le _, Nat.zero_le _⟩
  | some s => exact (hf.1 _ (xz hg)).2
 have h2 : (cw t n).length = n.funs.length := (by unfold cw; rw [List.length_map]); omega
theorem Gd {t : TSt} {n : aA} (hk : t.ks.Ok) (hf : ju n.funs t.funs) (hl : n.funs.length <= 6 /\ n.ins.length <= 6 /\ n.outs.length <= 6) : l6 n (jA t n) := by
 have h0 := nX hf hl.1; have hfl : (aQ t.ks [] (cw t n)).2.length = n.funs.length := (by rw [(nG t.ks _ _).2]; unfold cw; rw [List.length_map]); obtain ⟨h1, h2⟩ := C4 hk (cw t n) (nums := []) (λ p hp => by cases hp) (by simp; omega); have h3 := (nG t.ks (cw t n) []).1; rw [List.length_nil] at h3; obtain ⟨h4, h5⟩ := py hk (n.ins.map t.var) h2 (by rw [List.length_map]; omega); have h6 := (cD t.ks (n.ins.map t.var) (aQ t.ks [] (cw t n)).1); rw [List.length_map] at h6; obtain ⟨h7, _⟩ := py hk (n.outs.map t.var) h5 (by rw [List.length_map]; omega); have h8 := (cD t.ks (n.outs.map t.var) (aP t.ks (aQ t.ks [] (cw t n)).1 (n.ins.map t.var)).1).2; rw [List.length_map] at h8; refine ⟨hfl, by show (aQ t.ks [] (cw t n)).2.length <= 6; rw [hfl]; exact hl.1, ?_, h1, h4, h7⟩; show fL (aQ t.ks [] (cw t n)).2 + sgN ⟨_, _⟩ <= 84; rw [pQ]; unfold sgN; simp only; have h9 : ((aP t.ks (aQ t.ks [] (cw t n)).1 (n.ins.map t.var)).2).length = n.ins.length := h6.2; have h10 : ((aP t.ks (aP t.ks (aQ t.ks [] (cw t n)).1 (n.ins.map t.var)).1 (n.outs.map t.var)).2).length = n.outs.length := h8; show _ + (((aP t.ks (aQ t.ks [] (cw t n)).1 (n.ins.map t.var)).2).length + ((aP t.ks (aP t.ks (aQ t.ks [] (cw t n)).1 (n.ins.map t.var)).1 (n.outs.map t.var)).2).length) <= 84; omega
structure lr (ns : List aA) (l : List (Tx × bk)) : Prop where
 names : l.map Prod.fst = ns.map aA.name
 ok : ∀ (i : Nat) n x, ns[i]? = some n -> l[i]? = some x -> l6 n x.2
theorem lr.snoc {ns : List aA} {l : List (Tx × bk)} (h : lr ns l) {n : aA} {q : bk} (hq : l6 n q) : lr (ns ++ [n]) (l ++ [(n.name, q)]) := by
 have hl : l.length = ns.length := (by simpa using congrArg List.length h.names); refine ⟨by simp [h.names], λ i m x hm hx => ?_⟩; by_cases hi : i < ns.length
 . rw [List.getElem?_append_left hi] at hm; rw [List.getElem?_append_left zO] at hx; exact h.ok i m x hm hx
 . rw [List.getElem?_append_right zO] at hm hx; have h0 : i - ns.length = 0 := by
    have := (List.getElem?_eq_some_iff.1 hm).1; simp at this; omega
   rw [h0] at hm; rw [hl, h0] at hx; simp at hm hx; subst hm hx; exact hq
theorem lr.look {ns : List aA} {l : List (Tx × bk)} (h : lr ns l) {nm : Tx} {n : aA} (hn : bg (ns.map λ n => (n.name, n)) nm = some n) : ∃ q, bg l nm = some q /\ l6 n q := by
 induction ns generalizing l with
 | nil => simp [bg] at hn
 | cons m r ih =>
   cases l with
   | nil => have := h.names; simp at this
   | cons x s =>
     have hx : x.1 = m.name := (by have := h.names; simp at this; exact this.1); have h' : lr r s := ⟨by have := h.names; simp at this; exact this.2, λ i n' x' h1 h2 => h.ok (i + 1) n' x' (by simpa using h1) (by simpa using h2)⟩; rw [List.map_cons] at hn; by_cases e : m.name = nm
     . have : n = m := by
        unfold bg at hn; rw [List.find?_cons_of_pos (by simpa using e)] at hn; cases hn; rfl
       subst this; exact ⟨x.2, by unfold bg; rw [List.find?_cons_of_pos (by simpa [hx] using e)]; rfl, h.ok 0 n x rfl rfl⟩
     . have h1 : bg (r.map λ n => (n.name, n)) nm = some n := by
        unfold bg at hn ⊢; rwa [List.find?_cons_of_neg (by simpa using e)] at hn
       obtain ⟨q, h2, h3⟩ := ih h' h1; exact ⟨q, by unfold bg at h2 ⊢; rwa [List.find?_cons_of_neg (by simpa [hx] using e)], h3⟩
theorem lr.back {ns : List aA} {l : List (Tx × bk)} (h : lr ns l) {nm : Tx} {q : bk} (hq : bg l nm = some q) : ∃ (i : Nat) (n : aA), bg (ns.map λ n => (n.name, n)) nm = some n /\ ns[i]? = some n /\ l[i]? = some (nm, q) /\ ∀ j, j < i -> ∀ m, ns[j]? = some m -> m.name ≠ nm := by
 induction ns generalizing l with
 | nil => cases l with
   | nil => simp [bg] at hq
   | cons x s => have := h.names; simp at this
 | cons m r ih =>
   cases l with
   | nil => have := h.names; simp at this
   | cons x s =>
     have hx : x.1 = m.name := (by have := h.names; simp at this; exact this.1); have h' : lr r s := ⟨by have := h.names; simp at this; exact this.2, λ i n' x' h1 h2 => h.ok (i + 1) n' x' (by simpa using h1) (by simpa using h2)⟩; by_cases e : m.name = nm
     . have : q = x.2 := by
        unfold bg at hq; rw [List.find?_cons_of_pos (by simpa [hx] using e)] at hq; cases hq; rfl
       subst this; exact ⟨0, m, by unfold bg; rw [List.map_cons, List.find?_cons_of_pos (by simpa using e)]; rfl, rfl, by rw [<- e, <- hx]; rfl, λ j hj => by omega⟩
     . have h1 : bg s nm = some q := by
        unfold bg at hq ⊢; rwa [List.find?_cons_of_neg (by simpa [hx] using e)] at hq
       obtain ⟨i, n, h2, h3, h4, h5⟩ := ih h' h1; refine ⟨i + 1, n, ?_, by simpa using h3, by simpa using h4, λ j hj m' hm' => ?_⟩
       . unfold bg at h2 ⊢; rwa [List.map_cons, List.find?_cons_of_neg (by simpa using e)]
       . cases j with
         | zero => simp at hm'; subst hm'; exact e
         | succ j => exact h5 j zO m' (by simpa using hm')
theorem vJ (nm : Tx) (l : List aA) : ∀ (k : Int) (i : Nat) n, l[i]? = some n -> n.name = nm -> (∀ j, j < i -> ∀ m, l[j]? = some m -> m.name ≠ nm) -> iT k nm l = (k + i, true) := by
 induction l with
 | nil => intro k i n h; simp at h
 | cons x r ih =>
   intro k i n h hn hj; cases i with
   | zero =>
     simp at h; subst h; rw [iT, if_pos hn]; simp
   | succ i =>
     rw [iT, if_neg (hj 0 zO x rfl), ih (k + 1) i n (by simpa using h) hn λ j hji m hm => hj (j + 1) zO m (by simpa using hm)]; congr 1
     omega
theorem B0 {prev : List aA} {n : aA} (hfit : rp prev n) {l : List (Tx × bk)} (hp : lr prev l) {t : TSt} (hf : ju n.funs t.funs) (hlen : ¬ t.funs.length < n.funs.length) : ∀ i ∈ n.items, okX t.funs (bg l) i.eq.e := by
 obtain ⟨s, hs1, hs2, hs3⟩ := hfit.uses
 have hk : Fb s t.funs (bg l) := ⟨λ c => by
  rw [hs1, List.contains_iff_mem]; exact ⟨λ h => B7 hf h, λ h => qF hf hlen hfit.funs c h⟩, λ nm m hm => by
  rw [hs2] at hm; obtain ⟨q, h1, h2⟩ := hp.look hm; exact ⟨q, h1, h2.funs⟩⟩
 exact λ i hi => Ix hk i.eq.e _ _ (hfit.right i hi) (hs3 i hi)
theorem Cd {made : Bool} : ∀ x : Ex, bG made x = true -> ng x <= 14 * gD x := by
 refine Ex.ind λ op nm m cs ks ih => ?_; intro hr; rw [bG, Bool.and_eq_true] at hr; have hs := iQ hr.1; have : ∀ l : List Ex, (∀ k ∈ l, k ∈ ks) -> dp l <= 14 * cp l := by
  intro l; induction l with
  | nil => intro _; simp [dp]
  | cons k r ihr =>
    intro hl; rw [dp, cp]; have h1 := ih k (hl k (by simp)) (fZ hr.2 k (hl k (by simp))); have h2 := ihr λ k hk => hl k (by simp [hk]); omega
 have h1 := this ks λ _ h => h; have h2 := hs.kids8; rw [ng, gD]; omega
theorem GH (x : Ex) : 1 <= gD x := by obtain ⟨op, nm, m, cs, ks⟩ := x; rw [gD]; omega
theorem Ek {l : List bd} (hr : ∀ i ∈ l, bG true i.eq.e = true) : dp (dH l) <= 14 * cp (dH l) /\ bP 84 (dH l) <= 763 * cp (dH l) /\ l.length <= cp (dH l) := by
 induction l with
 | nil => exact ⟨Nat.le_refl _, Nat.le_refl _, Nat.le_refl _⟩
 | cons i r ih =>
   obtain ⟨h1, h2, h3⟩ := ih λ k hk => hr k (by simp [hk]); have h4 := Cd i.eq.e (hr i (by simp)); have h5 := EA 84 i.eq.e (hr i (by simp)); have h6 := GH i.eq.e; show ng i.eq.e + dp (dH r) <= 14 * (gD i.eq.e + cp (dH r)) /\ gf 84 i.eq.e + bP 84 (dH r) <= 763 * (gD i.eq.e + cp (dH r)) /\ (i :: r).length <= gD i.eq.e + cp (dH r); rw [List.length_cons]; omega
theorem Ei {prev : List aA} {n : aA} (h : rp prev n) : (aD n).length <= 6 + 6 * n.items.length := by
 unfold aD; rw [List.length_append]; have : ∀ l : List bd, (∀ i ∈ l, i.states = []) -> (∀ i ∈ l, i.eq.names.length <= 6) -> (l.flatMap aH).length <= 6 * l.length := by
  intro l; induction l with
  | nil => intro _ _; simp
  | cons i r ih =>
    intro h1 h2; rw [List.flatMap_cons, List.length_append, List.length_cons]; have h3 : aH i = i.eq.names := (by unfold aH; rw [h1 i (by simp)]); have h4 := h2 i (by simp); have h5 := ih (λ k hk => h1 k (by simp [hk])) (λ k hk => h2 k (by simp [hk])); rw [h3]; omega
 have h1 := this n.items h.plain λ i hi => (h.names i hi).2; have h2 := h.few.2.1; omega
theorem nZ {prev : List aA} {n : aA} (h : rp prev n) : (aD n).length + dp (dH n.items) + bP 84 (dH n.items) < 4194303 /\ (aD n).length <= 1806 := by
 obtain ⟨h1, h2, h3⟩ := Ek h.right; have h4 : cp (dH n.items) <= 300 := h.size; have h5 := Ei h; omega
def gg (p : cy) (nm : Tx) : Int := if (rI p nm).1 < 0 then 2 else 16 + (rI p nm).1
theorem Gx (s : Tx) (l : List fl) : ∀ k : Int, 0 <= k -> (nj k s l).1 <= k + l.length := by
 induction l with
 | nil => intro k hk; simpa [nj] using hk
 | cons e r ih =>
   intro k hk; rw [nj]; split
   . simp only [List.length_cons]; omega
   . have := ih (k + 1) zO; simp only [List.length_cons]; omega
theorem Ap {p : cy} (hp : fD p <= 1048576) (s : Tx) : (rI p s).1 <= 1048576 := by
 have hl : p.enums.length <= 1048576 := by
  have := ym (f := rQ) (l := p.enums) (λ i _ => by unfold rQ; omega); unfold fD at hp; omega
 unfold rI; split
 . simp only; omega
 . have := Gx s p.enums 0 (Int.le_refl _); omega
theorem an.imp {X : Type} {w : World} {R R' : List Value -> X -> Prop} {v : Value} {l : List X} (h : an w R v l) (hR : ∀ L x, x ∈ l -> R L x -> R' L x) : an w R' v l := by
 obtain ⟨A, c, rfl, h1, h2, h3⟩ := h
 exact ⟨A, c, rfl, h1, h2, λ i x hx => by
  obtain ⟨L, h4, h5⟩ := h3 i x hx; exact ⟨L, h4, hR L x (List.mem_of_getElem? hx) h5⟩⟩
def ei (C : Nat) (w : World) (v : Value) (qs : List bk) : Prop := aW (kC C w) C 39 4 w v qs
theorem DZ {C : Nat} {w : World} (L : List Value) (q : bk) (h : kC C w L q) : L.length = 4 := by
 obtain ⟨a, b, c, d, rfl, _⟩ := h; rfl
theorem DY {C : Nat} {w : World} (L : List Value) (q : bk) (h : kC C w L q) : ∀ u ∈ L, u.oneCell' = true := by
 obtain ⟨a, b, c, d, rfl, h1, h2, h3, h4⟩ := h; obtain ⟨_, _, _, rfl, _⟩ := h1.shape; obtain ⟨_, _, _, rfl, _⟩ := h2.shape; obtain ⟨_, _, _, rfl, _⟩ := h3.shape; obtain ⟨_, _, _, rfl, _⟩ := h4.shape; intro u hu; simp at hu; rcases hu with rfl | rfl | rfl | rfl <;> rfl
theorem D0 : (prog.info? 39).map (λ i => (i.zero, i.size, i.bytes)) = some (some (.agg #[.slice none 0 0, .slice none 0 0, .slice none 0 0, .slice none 0 0]), 4, 96) := by kernel_rfl
section
variable {C C' : Nat} {w w' : World} {L : List Value} {q : bk} {v : Value} {qs : List bk}
theorem kC.under (h : kC C w L q) (hb : Below w.heap.size w w') : kC C w' L q := by
 obtain ⟨a, b, c, d, rfl, h1, h2, h3, h4⟩ := h; exact ⟨a, b, c, d, rfl, h1.under hb, h2.under hb, h3.under hb, h4.under hb⟩
theorem rM.low (hC : C' <= C) {s : SgE} (h : rM C w L s) : rM C' w L s := by
 obtain ⟨a, b, rfl, h1, h2⟩ := h; exact ⟨a, b, rfl, aW.low h1 hC, aW.low h2 hC⟩
theorem kC.low (h : kC C w L q) (hC : C' <= C) : kC C' w L q := by
 obtain ⟨a, b, c, d, rfl, h1, h2, h3, h4⟩ := h; exact ⟨a, b, c, d, rfl, aW.keepR (aW.low h1 hC) (λ _ _ _ h => h) (λ _ _ _ h => h.low hC), aW.low h2 hC, aW.low h3 hC, aW.low h4 hC⟩
theorem kC.keptT (h : kC C w L q) (hk : br 39 w w') : kC C w' L q := by
 obtain ⟨a, b, c, d, rfl, h1, h2, h3, h4⟩ := h; exact ⟨a, b, c, d, rfl, h1.keptT hk zD zD, h2.keptT hk zD, h3.keptT hk zD, h4.keptT hk zD⟩
theorem ei.under (h : ei C w v qs) (hb : Below w.heap.size w w') : ei C w' v qs :=
 aW.keepR h (λ g _ _ ho => (hb.block g (ab ho)).trans ho) λ _ _ _ h => h.under hb
theorem ei.keptB {T1 : TypeId} (h : ei C w v qs) (hk : br T1 w w') (n1 : 39 ≠ T1) (n2 : 36 ≠ T1) (n3 : 40 ≠ T1) (n4 : 44 ≠ T1) : ei C w' v qs :=
 aW.keepR h (λ g o hg ho => by
  obtain ⟨_, _, cur, hc⟩ := h.blk hg
  rw [hc] at ho
  cases ho
  exact hk.cells hc n1) λ _ _ _ ⟨a, b, c, d, e, h1, h2, h3, h4⟩ => ⟨a, b, c, d, e, h1.keptT hk n2 n3, h2.keptT hk n3, h3.keptT hk n3, h4.keptT hk n4⟩
theorem ei.grownTo (h : aW (kC C w) C 39 4 w' v qs) (hk : br 39 w w') : ei C w' v qs :=
 aW.keepR h (λ _ _ _ h => h) λ _ _ _ h => h.keptT hk
theorem ei.read (h : ei C w v qs) (hq : ∀ q ∈ qs, ∃ n, l6 n q) : an w (J1 w) v qs :=
 (aW.at_ h).imp λ L q hm ⟨a, b, c, d, e, h1, h2, h3, h4⟩ => by
   obtain ⟨n, hn⟩ := hq q hm
   exact ⟨a, b, c, d, e, (aW.at_ h1).imp λ L' s hs ⟨x, y, e', g1, g2⟩ => ⟨x, y, e', g1.typs, g2.typs, (hn.sigs s hs).1, (hn.sigs s hs).2⟩, h2.typs, h3.typs, hn.ins, hn.outs⟩
end
theorem lr.all {ns : List aA} {l : List (Tx × bk)} (h : lr ns l) : ∀ q ∈ l.map Prod.snd, ∃ n, l6 n q := by
 intro q hq; obtain ⟨x, hx, rfl⟩ := List.mem_map.1 hq; obtain ⟨i, hi⟩ := List.getElem?_of_mem hx; have hl : l.length = ns.length := (by simpa using congrArg List.length h.names); have hin : i < ns.length := (by rw [<- hl]; exact (List.getElem?_eq_some_iff.1 hi).1); exact ⟨ns[i], h.ok i _ x (List.getElem?_eq_getElem hin) hi⟩
theorem vW {cx : TCx} {D : Nat} (hD : ∀ nm q, cx.sig nm = some q -> qN q <= D) (l : List bd) : ∀ (b : Int) (t u : TSt), (∀ i ∈ l, i.eq.names.length <= 6) -> eD cx b t l = .inl u -> u.funs = t.funs := by
 induction l with
 | nil => intro b t u _ h; cases h; rfl
 | cons i r ih =>
   intro b t u h6 h; rw [eD] at h; split at h
   . cases h
   . exact (ih _ _ _ (λ k hk => h6 k (by simp [hk])) h).trans (j7 hD t i.eq (h6 i (by simp))).2.1
theorem qf {cx : TCx} {D : Nat} (hD : ∀ nm q, cx.sig nm = some q -> qN q <= D) {n : aA} (h6 : ∀ i ∈ n.items, i.eq.names.length <= 6) {u : TSt} (h : jf cx n = .inl u) : ¬ (eB n.funs (cg .new (aD n)) n.items).funs.length < n.funs.length /\ u.funs = (eB n.funs (cg .new (aD n)) n.items).funs := by
 have h' : (if (eB n.funs (cg .new (aD n)) n.items).funs.length < n.funs.length then (.inr (-1) : TSt ⊕ Int) else eD cx 0 (eB n.funs (cg .new (aD n)) n.items) n.items) = .inl u := h; split at h'
 . cases h'
 . rename_i hl; exact ⟨hl, vW hD _ _ _ _ h6 h'⟩
theorem fV {tmps : Array Value} {w : World} {N : Nat} {v x0 x1 x2 : Value} (hp : tmps.getD 3 undef = .pointer (some ⟨N, 0, none⟩)) (hv : tmps.getD 2 undef = v) (hg : w.heap[N]? = some (.cells #[x0, x1, x2] 30 (0, 0))) :
  (results f5 tmps).run prog w = .ok (.tuple #[v, .agg #[x0, x1, x2]]) w := by
 have hl := run_loadVar_row (P := prog) w N 30 30 #[x0, x1, x2] (0, 0) _ hg underlying30 rfl zK; have hp' : tmps[3]?.getD undef = .pointer (some ⟨N, 0, none⟩) := (by simpa using hp); have hv' : tmps[2]?.getD undef = v := (by simpa using hv); simp [results, results5, hp', hv', asAddr, hl]
def eA (p : cy) (W : World) (e : Ending) (w' : World) : Prop := ∃ v, e = .returned (.tuple #[v, .agg #[.int .i64 (eE (gg p) p).2.1, .int .i64 (eE (gg p) p).2.2.1, .int .i64 (eE (gg p) p).2.2.2]]) /\ ei W.heap.size w' v (eE (gg p) p).1 /\ Below W.heap.size W w'
theorem eA.bad {p : cy} {W w' : World} {f : Int × Int × Int} (h : eE (gg p) p = ([], f)) (hb : Below W.heap.size W w') : eA p W (.returned (.tuple #[.slice none 0 0, .agg #[.int .i64 f.1, .int .i64 f.2.1, .int .i64 f.2.2]])) w' := by
 unfold eA; rw [h]; exact ⟨_, rfl, aW.nil _, hb⟩
section
variable {p : cy} {l : List (Tx × bk)} {n : aA} {j C : Nat} {W1 W8 : World} {H : TyH} {kv : Value} {a b v : Value} {L : List Value}
theorem zu (hev : H.ev = a) (hnv : H.nv = b) (hiv : H.iv = v) (hP : ef W1 [a, b] p) (hI : ei C W1 v (l.map Prod.snd)) (hpv : lr (p.nodes.take j) l) : l5 H (bg l) 84 W1 := by
 refine ⟨λ nm q hq => ?_, λ nm q hq => ?_, λ nm q hq => ?_⟩
 . obtain ⟨i, m, _, h2, h3, h4⟩ := hpv.back hq; have hij : i < j := by
    have := (List.getElem?_eq_some_iff.1 h2).1; rw [List.length_take] at this; omega
   rw [List.getElem?_take, if_pos hij] at h2; have hm : m.name = nm := by
    have hx := hpv.names; have h5 : (l.map Prod.fst)[i]? = some nm := (by rw [List.getElem?_map, h3]; rfl); rw [hx, List.getElem?_map, List.getElem?_take, if_pos hij, h2] at h5; injection h5
   have hnode := DG hP nm; rw [vJ nm p.nodes 0 i m h2 hm λ k hk m' hm' => h4 k hk m' (by rw [List.getElem?_take, if_pos zO]; exact hm')] at hnode; refine ⟨i, l.map Prod.snd, by rw [hiv]; exact hI.read hpv.all, by rw [List.getElem?_map, h3]; rfl, λ W hW => ?_⟩; rw [hev, hnv]; refine (hnode W hW).mono ?_; rintro e w' ⟨rfl, hb⟩; exact ⟨by simp, hb⟩
 . obtain ⟨i, m, _, h2, h3, _⟩ := hpv.back hq; exact (hpv.ok i m _ h2 h3).small
 . obtain ⟨i, m, _, h2, h3, _⟩ := hpv.back hq; have := (hpv.ok i m _ h2 h3).few; simp only at this; omega
theorem I1 (hev : H.ev = a) (hnv : H.nv = b) (hP : ef W1 [a, b] p) (hp : fD p <= 1048576) : oR H (gg p) W1 := by
 intro nm W hW; rw [hev, hnv]; refine (Gw hP nm W hW).mono ?_; rintro e w' ⟨rfl, hb⟩; exact ⟨_, _, _, rfl, by have := Ap hp nm; omega, rfl, hb⟩
theorem rl (hev : H.ev = a) (hnv : H.nv = b) (hiv : H.iv = v) (hP : ef W1 [a, b] p) (hp : fD p <= 1048576) (hI : ei C W1 v (l.map Prod.snd)) (hpv : lr (p.nodes.take j) l) (hfit : rp (p.nodes.take j) n) (hNA : bY W1 L n) (hvf : (aD n).length <= 2097152)
  (hty : aI W1.heap.size W8 H kv TSt.new) (hne : H.mv ≠ H.mf) (hBV : W1.heap.size <= H.mv) (hBF : W1.heap.size <= H.mf) (hb : Below W1.heap.size W1 W8) :
  Calls prog 12 #[.pointer (some ⟨H.N, 0, none⟩), .agg L.toArray] W8 (rm W1.heap.size H (jf ⟨gg p, bg l⟩ n) W8) := by
 have h6 : ∀ i ∈ n.items, i.eq.names.length <= 6 := λ i hi => (hfit.names i hi).2
 have hfi : ju n.funs (eB n.funs (cg .new (aD n)) n.items).funs := yO n.items _ h6 hfit.right (by
  rw [(mb (aD n) TSt.new).2.1]; exact ⟨λ p hp => absurd hp List.not_mem_nil, List.nodup_nil⟩)
 exact xo (cx := ⟨gg p, bg l⟩) (D := 84) hty hb.size hb (Nat.le_refl _) hne hBV hBF hNA (λ W hW => uF hNA hvf W hW) hfit.nodup (zu hev hnv hiv hP hI hpv) (I1 hev hnv hP hp)
  (λ c => by have := Ap hp c; show gg p c < _; unfold gg; split <;> omega) CP (λ A c ha s W hW => nh s ha W hW) h6 hfit.right (λ hl => B0 hfit hpv hfi hl)
  (λ i hi t => Dd i.eq.e (hfit.right i hi) _ (hfit.names i hi).1 (hfit.one i hi) t) hfit.few.1 (nZ hfit).1
theorem Ge {t' : TSt} (hev : H.ev = a) (hnv : H.nv = b) (hiv : H.iv = v) (hP : ef W1 [a, b] p) (hI : ei C W1 v (l.map Prod.snd)) (hpv : lr (p.nodes.take j) l) (hfit : rp (p.nodes.take j) n) (hNA : bY W1 L n) (hvf : (aD n).length <= 2097152)
  (hty : aI W1.heap.size W8 H kv t') (hnt : jf ⟨gg p, bg l⟩ n = .inl t') (hb : Below W1.heap.size W1 W8) :
  Calls prog 13 #[.pointer (some ⟨H.N, 0, none⟩), .agg L.toArray] W8 (λ e w' => ∃ L', e = .returned (.agg L'.toArray) /\ kC W8.heap.size w' L' (jA t' n) /\ Below W1.heap.size W8 w') /\ l6 n (jA t' n) := by
 have h6 : ∀ i ∈ n.items, i.eq.names.length <= 6 := λ i hi => (hfit.names i hi).2
 have hfi : ju n.funs (eB n.funs (cg .new (aD n)) n.items).funs := yO n.items _ h6 hfit.right (by
  rw [(mb (aD n) TSt.new).2.1]; exact ⟨λ p hp => absurd hp List.not_mem_nil, List.nodup_nil⟩)
 obtain ⟨hl, hf⟩ := qf (cx := ⟨gg p, bg l⟩) (D := 84) (zu hev hnv hiv hP hI hpv).small h6 hnt; have hfi' : ju n.funs t'.funs := (by rw [hf]; exact hfi); have hsg := nX hfi' hfit.few.1; unfold cw at hsg; have hvb := (nZ hfit).2; have hfw := hfit.few; have hks : t'.ks.Ok := by
  obtain ⟨E, ρ, hk⟩ := hty.knot; exact hk.good.ok
 exact ⟨xq hty hb.size hb (Nat.le_refl _) hNA (λ W hW => uF hNA hvf W hW) (qF hfi' (by rw [hf]; exact hl) hfit.funs) zO hfw.1, Gd hks hfi' hfw⟩
end
theorem BK {w0 : World} {L : List Value} {p : cy} (hL : ef w0 L p) (hp : fD p <= 1048576) : ∀ w, Below w0.heap.size w0 w -> Calls prog 5 #[.agg L.toArray] w (eA p w) := by
 intro w hb; have HCK := zH (Cl true hL (Dh hp)); have HP := zH hL; have HW := zH hp; have HB := zH hb; have hsz := hb.size; obtain ⟨ev, nv, rfl, he, hn⟩ := hL; obtain ⟨Ae, ne, ce, rfl⟩ := an.shape he; have HNS := zH hn; obtain ⟨An, cn, rfl, hcc, hcm, hce⟩ := hn; have hnl : p.nodes.length <= 9223372036854775807 := (by unfold maxLen at hcm; omega); have HCE := zH hce; have hal := zA w (.cells #[.slice Ae ne ce, .slice An p.nodes.length cn] 25); have hal2 := hal.alloc (by simp) (.cells #[.int .i64 0, .int .i64 0, .int .i64 0] 30); have HAL := zH hal2; have BE := zH (az (o := .cells #[.int .i64 0, .int .i64 0, .int .i64 0] 30) (heap_alloc_new w (.cells #[.slice Ae ne ce, .slice An p.nodes.length cn] 25))); have BR := zH (bh (w := w.alloc (.cells #[.slice Ae ne ce, .slice An p.nodes.length cn] 25)) (o := .cells #[.int .i64 0, .int .i64 0, .int .i64 0] 30) (n := w.heap.size + 1) (by simp)); have HCC := zH (HCK.o _ (hb.trans (hal2.mono hsz))); obtain ⟨p0, p1⟩ := bb BE.o; obtain ⟨R, hR⟩ : ∃ R, R = w.heap.size + 1 := ⟨_, rfl⟩; have HRW := zH hR; rw [<- hR] at BR; clear hR; clear hb hp he hcc hcm hce hal hal2; by_cases hc0 : (dE true p).1 = 0
 . have hck : dE true p = (0, 0, 0) := (lY hc0).1; have HCQ := zH hck; rw [hck] at HCC; clear hc0 hck; cases hsg : p.nodes.any gK with
   | true =>
     have HQ := zH (show eE (gg p) p = ([], (1, 0, 0)) by unfold eE; rw [if_pos HCQ.o, if_pos hsg]); go_enter func5, ntmps5
     go_wp2_with (first
      | (go_at_call 8; (with_reducible refine HCC.o.mono ?_); rintro e w1 ⟨rfl, hb1⟩; obtain ⟨V1, rfl⟩ := zW w1; have hal1 := zA V1 (.cells #[.int .i64 0, .int .i64 0, .int .i64 0] 30); have HB1 := zH ((HAL.o.trans (hb1.mono HAL.o.size)).trans (hal1.mono (Nat.le_trans HAL.o.size hb1.size))); have BE1 := zH ((hal1.block _ (by have := ab BE.o; have := hb1.size; omega)).trans ((hb1.block _ (ab BE.o)).trans BE.o)); have BR1 := zH ((hal1.block _ (by have := ab BR.o; have := hb1.size; omega)).trans ((hb1.block _ (ab BR.o)).trans BR.o)); obtain ⟨e0, e1⟩ := bb BE1.o; have HSG := zH (ml HNS.o _ (HB.o.trans (HB1.o.mono hsz))); rw [hsg] at HSG; clear hb1 hal1)
      | (go_at_call 9; (with_reducible refine HSG.o.mono ?_); rintro e w2 ⟨rfl, hb2⟩; obtain ⟨V2, rfl⟩ := zW w2; have HB2 := zH (HB1.o.trans (hb2.mono HB1.o.size)); have BR2 := zH ((hb2.block _ (ab BR1.o)).trans BR1.o); obtain ⟨r0, r1, r2⟩ := bI BR2.o; have f0 := ba BR2.o 0; have s1 := heap_setCell_same V2 R 0 _ _ (.int .i64 1) BR2.o; have s2 := heap_setCell_same _ R 1 _ _ (.int .i64 0) s1; have HXX := zH (heap_setCell_same _ R 2 _ _ (.int .i64 0) s2); obtain ⟨_, y1, _⟩ := bI s1; have f1 := ba s1 1; obtain ⟨_, _, y2⟩ := bI s2; have f2 := ba s2 2; have HBX := zH ((((HB2.o.setCell (p := ⟨R, 0, none⟩) (by have := HRW.o; simp; omega) (.int .i64 1)).setCell (p := ⟨R, 1, none⟩) (by have := HRW.o; simp; omega) (.int .i64 0)).setCell (p := ⟨R, 2, none⟩) (by have := HRW.o; simp; omega) (.int .i64 0))); rw [HRW.o] at r0 r1 r2 f0 y1 f1 y2 f2 HXX HBX; clear hb2 s1 s2))
     refine bodyPost_ret (fV rfl rfl HXX.o) rfl (eA.bad HQ.o HBX.o)
   | false =>
     have HSB := zH (show eE (gg p) p = dB (gg p) 0 [] p.nodes by unfold eE; rw [if_pos HCQ.o, if_neg (by rw [hsg]; decide)]); have HSG0 := zH hsg; go_enter func5, ntmps5
     go_wp2_with (first
      | (go_at_call 8; (with_reducible refine HCC.o.mono ?_); rintro e w1 ⟨rfl, hb1⟩; obtain ⟨V1, rfl⟩ := zW w1; have hal1 := zA V1 (.cells #[.int .i64 0, .int .i64 0, .int .i64 0] 30); have HB1 := zH ((HAL.o.trans (hb1.mono HAL.o.size)).trans (hal1.mono (Nat.le_trans HAL.o.size hb1.size))); have BE1 := zH ((hal1.block _ (by have := ab BE.o; have := hb1.size; omega)).trans ((hb1.block _ (ab BE.o)).trans BE.o)); have BR1 := zH ((hal1.block _ (by have := ab BR.o; have := hb1.size; omega)).trans ((hb1.block _ (ab BR.o)).trans BR.o)); obtain ⟨e0, e1⟩ := bb BE1.o; have HSG := zH (ml HNS.o _ (HB.o.trans (HB1.o.mono hsz))); rw [hsg] at HSG; clear hb1 hal1)
      | (go_at_call 9; (with_reducible refine HSG.o.mono ?_); rintro e w2 ⟨rfl, hb2⟩; obtain ⟨V2, rfl⟩ := zW w2; have HB2 := zH (HB1.o.trans (hb2.mono HB1.o.size)); have BR2 := zH ((hb2.block _ (ab BR1.o)).trans BR1.o); have BE2 := zH ((hb2.block _ (ab BE1.o)).trans BE1.o); obtain ⟨e0, e1⟩ := bb BE2.o; clear hb2))
     rw [<- HRW.o]; clear e0 e1; go_loopg [5, 24] p.nodes.length (λ g ov v wr => ∃ j : Nat, j + g = p.nodes.length /\ v = .int .i64 j /\ ∃ l : List (Tx × bk), ei w.heap.size wr ov (l.map Prod.snd) /\ lr (p.nodes.take j) l /\ dB (gg p) 0 [] p.nodes = dB (gg p) j l (p.nodes.drop j) /\ wr.heap[w.heap.size]? = some (.cells #[.slice Ae ne ce, .slice An p.nodes.length cn] 25 (0, 0)) /\ wr.heap[R]? = some (.cells #[.int .i64 0, .int .i64 0, .int .i64 0] 30 (0, 0)) /\ Below w.heap.size w wr)
     case atStart => exact ⟨0, by omega, rfl, [], aW.nil _, ⟨rfl, λ i n x h => by simp at h⟩, rfl, BE2.o, BR2.o, HB2.o⟩
     case round =>
      obtain ⟨j, hjg, rfl, l, hown, hpv, hinf, hbe, hbr, hbw⟩ := hrel; obtain ⟨wz, rfl⟩ := zW wr; have HK := zH hjg; have HO := zH hown; have HPV := zH hpv; have HIN := zH hinf; have BEZ := zH hbe; have BRZ := zH hbr; have HBZ := zH hbw; have HBWZ := zH (HB.o.trans (hbw.mono hsz)); have hjl : j <= p.nodes.length := zO; have hll : l.length = j := (by have h1 := congrArg List.length hpv.names; rw [List.length_map, List.length_map, List.length_take, Nat.min_eq_left hjl] at h1; exact h1); obtain ⟨A5, n5, c5, rfl, hn5⟩ := hown.shape; rw [List.length_map, hll] at hn5; subst hn5; have HLL := zH hll; clear hjg hown hpv hinf hbe hbr hbw hll; by_cases hlt : n5 < p.nodes.length
      . obtain ⟨n, hn⟩ := zG hlt; have hfit := td HCQ.o HW.o HSG0.o n5 n hn; have HDR := zH (bt hn)
        have HTN := zH (show p.nodes.take (n5 + 1) = p.nodes.take n5 ++ [n] by
         obtain ⟨_, rfl⟩ := List.getElem?_eq_some_iff.1 hn; rw [List.take_succ_eq_append_getElem hlt])
        obtain ⟨Ln, hEn, hNA⟩ := HCE.o n5 n hn; have hvf := CI HW.o (List.mem_of_getElem? hn); have hW1 : ∃ W1, W1 = wz.alloc (.cells Ln.toArray 54) := ⟨_, rfl⟩; obtain ⟨s0, a1, m1, k1, a2, m2, k2, a3, m3, k3, a4, m4, k4, rfl⟩ := hNA.shape; obtain ⟨x1, ex1, _, _, d0, d1, d2, d3, d4⟩ := d8 (hEn.under HBWZ.o); subst ex1; have hal1 := zA wz (.cells #[.string s0, .slice a1 m1 k1, .slice a2 m2 k2, .slice a3 m3 k3, .slice a4 m4 k4] 54); have HAL1 := zH hal1; have BE3 := zH ((hal1.block _ (ab BEZ.o)).trans BEZ.o); have BR3 := zH ((hal1.block _ (ab BRZ.o)).trans BRZ.o); have BN3 := zH (heap_alloc_new wz (.cells #[.string s0, .slice a1 m1 k1, .slice a2 m2 k2, .slice a3 m3 k3, .slice a4 m4 k4] 54)); have HB3 := zH (HBZ.o.trans (hal1.mono HBZ.o.size)); have HBW3 := zH (HBWZ.o.trans (hal1.mono HBWZ.o.size)); have HO3 := zH (HO.o.under hal1); have HP3 := zH (HP.o.under HBW3.o); have HNA3 := zH (hNA.under HBW3.o); obtain ⟨e0, e1⟩ := bb BE3.o; obtain ⟨g0, g1, g2, g3, g4⟩ := aV BN3.o; have HFIT := zH hfit; have HVF := zH hvf; have HNN := zH hn; clear hn hEn hNA hfit hvf hW1 hal1; have HNT := zH (rB (w := (wz.alloc (.cells #[.string s0, .slice a1 m1 k1, .slice a2 m2 k2, .slice a3 m3 k3, .slice a4 m4 k4] 54))) (a := .slice Ae ne ce) (b := .slice (some x1) p.nodes.length cn) (Ac := A5) (nc := n5) (kc := c5)); cases hnt : jf ⟨gg p, bg l⟩ n with
        | inr b =>
          have HDT := zH (show dB (gg p) 0 [] p.nodes = ([], (5, (n5 : Int), b)) by rw [HIN.o, HDR.o, dB, hnt])
          go_wp2_with (first
           | (go_at_call 11; (with_reducible refine HNT.o.mono ?_); rintro e w8 ⟨H, kv, rfl, hev, hnv, hiv, hty, hne, hBV, hBF, hb8⟩; obtain ⟨V8, rfl⟩ := zW w8; have HAN := zH (rl (C := w.heap.size) hev hnv hiv HP3.o HW.o HO3.o HPV.o HFIT.o HNA3.o HVF.o hty hne hBV hBF hb8); rw [hnt] at HAN; have HEV := zH hev; have HNV := zH hnv; have HIV := zH hiv; have HB8 := zH hb8; have BE8 := zH ((hb8.block _ (ab BE3.o)).trans BE3.o); have BR8 := zH ((hb8.block _ (ab BR3.o)).trans BR3.o); obtain ⟨g0, g1, g2, g3, g4⟩ := aV ((hb8.block _ (ab BN3.o)).trans BN3.o); clear hev hnv hiv hty hne hBV hBF hb8)
           | (go_at_call 12; (with_reducible refine HAN.o.mono ?_); rintro e w9 ⟨hb9, he9⟩; have he9 : e = .returned (.tuple #[.int .i64 b, .bool false]) := he9; subst he9; obtain ⟨V9, rfl⟩ := zW w9; have hb19 := HB8.o.trans hb9; have HB9 := zH (HB3.o.trans (hb19.mono HB3.o.size)); have BR9 := zH ((hb19.block _ (ab BR3.o)).trans BR3.o); obtain ⟨r0, r1, r2⟩ := bI BR9.o; have f0 := ba BR9.o 0; have s1 := heap_setCell_same V9 R 0 _ _ (.int .i64 5) BR9.o; have s2 := heap_setCell_same _ R 1 _ _ (.int .i64 (n5 : Int)) s1; have HXX := zH (heap_setCell_same _ R 2 _ _ (.int .i64 b) s2); obtain ⟨_, y1, _⟩ := bI s1; have f1 := ba s1 1; obtain ⟨_, _, y2⟩ := bI s2; have f2 := ba s2 2; have HBX := zH ((((HB9.o.setCell (p := ⟨R, 0, none⟩) (by have := HRW.o; simp; omega) (.int .i64 5)).setCell (p := ⟨R, 1, none⟩) (by have := HRW.o; simp; omega) (.int .i64 (n5 : Int))).setCell (p := ⟨R, 2, none⟩) (by have := HRW.o; simp; omega) (.int .i64 b))); clear s1 s2 hb9 hb19))
          refine bodyPost_ret (fV rfl rfl HXX.o) rfl (eA.bad (HSB.o.trans HDT.o) HBX.o)
        | inl t' =>
          have HDT := zH (show dB (gg p) 0 [] p.nodes = dB (gg p) ((n5 + 1 : Nat) : Int) (l ++ [(n.name, jA t' n)]) (p.nodes.drop (n5 + 1)) by rw [HIN.o, HDR.o, dB, hnt]; rfl)
          have HFL := zH (show (l.map Prod.snd).length <= 4194303 by
           have h1 := HLL.o; have h2 := (Bd (lY (made := true) (p := p) (by rw [HCQ.o])).2.1).2; rw [List.length_map]; omega)
          go_wp2_with (first
           | (go_at_call 11; (with_reducible refine HNT.o.mono ?_); rintro e w8 ⟨H, kv, rfl, hev, hnv, hiv, hty, hne, hBV, hBF, hb8⟩; obtain ⟨V8, rfl⟩ := zW w8; have HAN := zH (rl (C := w.heap.size) hev hnv hiv HP3.o HW.o HO3.o HPV.o HFIT.o HNA3.o HVF.o hty hne hBV hBF hb8); rw [hnt] at HAN; have HEV := zH hev; have HNV := zH hnv; have HIV := zH hiv; have HB8 := zH hb8; have BE8 := zH ((hb8.block _ (ab BE3.o)).trans BE3.o); have BR8 := zH ((hb8.block _ (ab BR3.o)).trans BR3.o); obtain ⟨g0, g1, g2, g3, g4⟩ := aV ((hb8.block _ (ab BN3.o)).trans BN3.o); clear hev hnv hiv hty hne hBV hBF hb8)
           | (go_at_call 12; (with_reducible refine HAN.o.mono ?_); rintro e w9 ⟨hb9, he9⟩; obtain ⟨he9, kv9, ht9⟩ : e = .returned (.tuple #[.int .i64 0, .bool true]) /\ ∃ kv', aI (wz.alloc (.cells #[.string s0, .slice a1 m1 k1, .slice a2 m2 k2, .slice a3 m3 k3, .slice a4 m4 k4] 54)).heap.size w9 H kv' t' := he9; subst he9; obtain ⟨V9, rfl⟩ := zW w9; have hb19 := HB8.o.trans hb9; have HB19 := zH hb19; have HIT := zH (Ge (C := w.heap.size) HEV.o HNV.o HIV.o HP3.o HO3.o HPV.o HFIT.o HNA3.o HVF.o ht9 hnt hb19); have BE9 := zH ((hb19.block _ (ab BE3.o)).trans BE3.o); have BR9 := zH ((hb19.block _ (ab BR3.o)).trans BR3.o); obtain ⟨g0, g1, g2, g3, g4⟩ := aV ((hb19.block _ (ab BN3.o)).trans BN3.o); clear hb9 hb19 ht9)
           | (go_at_call 13; (with_reducible refine HIT.o.1.mono ?_); rintro e w10 ⟨L', rfl, hi10, hb10⟩; obtain ⟨V10, rfl⟩ := zW w10; have hb110 := HB19.o.trans hb10; have hal := zA V10 (.cells L'.toArray 39); have hb111 := hb110.trans (hal.mono hb110.size); have HB11 := zH (HB3.o.trans (hb111.mono HB3.o.size)); have HX11 := zH (kC.under (kC.low hi10 (Nat.le_trans HB3.o.size HB19.o.size)) hal); have HO11 := zH (HO3.o.under hb111); have BE11 := zH ((hb111.block _ (ab BE3.o)).trans BE3.o); have BR11 := zH ((hb111.block _ (ab BR3.o)).trans BR3.o); obtain ⟨q1, q2, q3, q4, rfl, k1, k2, k3, k4⟩ := hi10; obtain ⟨B1, m1', c1', rfl, -⟩ := k1.shape; obtain ⟨B2, m2', c2', rfl, -⟩ := k2.shape; obtain ⟨B3, m3', c3', rfl, -⟩ := k3.shape; obtain ⟨B4, m4', c4', rfl, -⟩ := k4.shape; clear hb10 hb110 hal hb111 k1 k2 k3 k4)
           | (at_builtin
              refine px underlying27 D0 rfl zD zD DZ DY rfl _ _ rfl rfl rfl (heap_alloc_new _ _) HX11.o HO11.o HFL.o HB11.o.size ?_; intro v12 w12 h12 g12; obtain ⟨V12, rfl⟩ := zW w12; have hk12 : br 39 _ V12 := br.grown HO11.o g12; have HO12 := zH (ei.grownTo h12 hk12); have BE12 := zH (hk12.cells BE11.o zD); have BR12 := zH (hk12.cells BR11.o zD); have HB12 := zH (HB11.o.grown g12 HB11.o.size (λ g hg => (HO11.o.blk hg).1)); obtain ⟨B6, m6, c6, rfl, hm6⟩ := h12.shape; have HM6 := zH hm6; clear h12 g12 hk12 hm6))
          go_roundg (p.nodes.length - (n5 + 1))
          case measure => have := HK.o; omega
          case rel => exact ⟨n5 + 1, by omega, by go_num, l ++ [(n.name, jA t' n)], by rw [List.map_append]; exact HO12.o, by rw [HTN.o]; exact HPV.o.snoc HIT.o.2, HDT.o, BE12.o, BR12.o, HB12.o⟩
      . have hje : n5 = p.nodes.length := by omega
        have HIE := zH (show dB (gg p) 0 [] p.nodes = (l.map Prod.snd, (0, 0, 0)) by rw [HIN.o, hje, List.drop_length]; rfl); have HOE := zH HO.o; obtain ⟨r0, r1, r2⟩ := bI BRZ.o; have f0 := ba BRZ.o 0; have s1 := heap_setCell_same wz R 0 _ _ (.int .i64 0) BRZ.o; have s2 := heap_setCell_same _ R 1 _ _ (.int .i64 0) s1; have HXX := zH (heap_setCell_same _ R 2 _ _ (.int .i64 0) s2); obtain ⟨_, y1, _⟩ := bI s1; have f1 := ba s1 1; obtain ⟨_, _, y2⟩ := bI s2; have f2 := ba s2 2; have HKT := zH (show br 30 wz _ from ⟨_, ((((a7.refl (· = R) wz).set (a := ⟨R, 0, none⟩) (.inl rfl) (.int .i64 0)).set (a := ⟨R, 1, none⟩) (.inl rfl) (.int .i64 0)).set (a := ⟨R, 2, none⟩) (.inl rfl) (.int .i64 0)), λ b hb => ⟨#[.int .i64 0, .int .i64 0, .int .i64 0], by rw [show b = R from hb]; exact BRZ.o⟩⟩); have HBX := zH ((((HBZ.o.setCell (p := ⟨R, 0, none⟩) (by have := HRW.o; simp; omega) (.int .i64 0)).setCell (p := ⟨R, 1, none⟩) (by have := HRW.o; simp; omega) (.int .i64 0)).setCell (p := ⟨R, 2, none⟩) (by have := HRW.o; simp; omega) (.int .i64 0))); clear s1 s2 hje; go_wp2_with fail
        refine bodyPost_ret (fV rfl rfl HXX.o) rfl ?_; unfold eA; rw [HSB.o, HIE.o]; exact ⟨_, rfl, ei.keptB HOE.o HKT.o zD zD zD zD, HBX.o⟩
 . have HQ := zH (show eE (gg p) p = ([], dE true p) by unfold eE; rw [if_neg (λ h => hc0 (by rw [h]))]); have q0 : ((dE true p).1 != 0) = true := (by simpa using hc0); clear hc0; generalize dE true p = r at *; go_enter func5, ntmps5
   go_wp2_with (go_at_call 8
                (with_reducible refine HCC.o.mono ?_); rintro e w1 ⟨rfl, hb1⟩; obtain ⟨V1, rfl⟩ := zW w1; have hal1 := zA V1 (.cells #[.int .i64 r.1, .int .i64 r.2.1, .int .i64 r.2.2] 30); have HB1 := zH ((HAL.o.trans (hb1.mono HAL.o.size)).trans (hal1.mono (Nat.le_trans HAL.o.size hb1.size))); have BR1 := zH ((hal1.block _ (by have := ab BR.o; have := hb1.size; omega)).trans ((hb1.block _ (ab BR.o)).trans BR.o)); have BF1 := zH (heap_alloc_new V1 (.cells #[.int .i64 r.1, .int .i64 r.2.1, .int .i64 r.2.2] 30)); have HRV := zH (show R < V1.heap.size by have := ab BR.o; have := hb1.size; omega); obtain ⟨t0, t1, t2⟩ := bI BF1.o; clear hb1 hal1)
   have KT := zH (show (λ W : World => W.cell? ⟨V1.heap.size, 0, none⟩ = some (.int .i64 r.1) /\ W.cell? ⟨V1.heap.size, 1, none⟩ = some (.int .i64 r.2.1) /\ W.cell? ⟨V1.heap.size, 2, none⟩ = some (.int .i64 r.2.2)) (V1.alloc (.cells #[.int .i64 r.1, .int .i64 r.2.1, .int .i64 r.2.2] 30)).drew from ⟨t0, t1, t2⟩); rw [<- HRW.o]; refine wp_region_held_drew (S := (λ W : World => W.cell? ⟨V1.heap.size, 0, none⟩ = some (.int .i64 r.1) /\ W.cell? ⟨V1.heap.size, 1, none⟩ = some (.int .i64 r.2.1) /\ W.cell? ⟨V1.heap.size, 2, none⟩ = some (.int .i64 r.2.2))) zK ?_ (λ hHeld => ?_)
   . exact KT.o
   refine aa 0 ?_; refine aa 1 ?_; have BRD := zH (show (V1.alloc (.cells #[.int .i64 r.1, .int .i64 r.2.1, .int .i64 r.2.2] 30)).drew.heap[R]? = some (.cells #[.int .i64 0, .int .i64 0, .int .i64 0] 30 (0, 0)) from BR1.o); have BFD := zH (show (V1.alloc (.cells #[.int .i64 r.1, .int .i64 r.2.1, .int .i64 r.2.2] 30)).drew.heap[V1.heap.size]? = some (.cells #[.int .i64 r.1, .int .i64 r.2.1, .int .i64 r.2.2] 30 (0, 0)) from BF1.o); have HBD := zH HB1.o.drew; clear BR1 BF1 HB1 KT t0 t1 t2 hHeld; generalize (V1.alloc (.cells #[.int .i64 r.1, .int .i64 r.2.1, .int .i64 r.2.2] 30)).drew = V2 at *; obtain ⟨r0, r1, r2⟩ := bI BRD.o; have f0 := ba BRD.o 0; have s1 := heap_setCell_same V2 R 0 _ _ (.int .i64 r.1) BRD.o; have s2 := heap_setCell_same _ R 1 _ _ (.int .i64 r.2.1) s1; have HXX := zH (heap_setCell_same _ R 2 _ _ (.int .i64 r.2.2) s2); obtain ⟨_, y1, _⟩ := bI s1; have f1 := ba s1 1; obtain ⟨_, _, y2⟩ := bI s2; have f2 := ba s2 2; have hkp := ((((a7.refl (· = R) V2).set (a := ⟨R, 0, none⟩) (.inl rfl) (.int .i64 r.1)).set (a := ⟨R, 1, none⟩) (.inl rfl) (.int .i64 r.2.1)).set (a := ⟨R, 2, none⟩) (.inl rfl) (.int .i64 r.2.2)); have HBX := zH ((((HBD.o.setCell (p := ⟨R, 0, none⟩) (by have := HRW.o; simp; omega) (.int .i64 r.1)).setCell (p := ⟨R, 1, none⟩) (by have := HRW.o; simp; omega) (.int .i64 r.2.1)).setCell (p := ⟨R, 2, none⟩) (by have := HRW.o; simp; omega) (.int .i64 r.2.2))); refine aq 2 zK rfl (λ K hK => ?_); go_simp
   obtain ⟨t0, t1, t2⟩ := bI (hkp.heap BFD.o (λ e => by have := HRV.o; have e : V1.heap.size = R := e; omega)); refine hK.out _ _ ⟨t0, t1, t2⟩ (λ hHeld => ?_); clear hK K s1 s2 hkp; try simp only [Act.put]
   refine wpAnyH_done zK ?_ _; go_wp2_with fail
   refine bodyPost_ret (fV rfl rfl HXX.o) rfl (eA.bad HQ.o HBX.o)
end Go.Proofs.YtccihplmmfmonaaGreatDoor
