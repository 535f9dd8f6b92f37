import Derived.Test.YtdcjlihaldhhjaaGreatDoorKm41
set_option maxHeartbeats 16000000
set_option maxRecDepth 100000
namespace Go.Proofs.YtdcjlihaldhhjaaGreatDoor
open _root_.Go.Proofs.Tryz
open Go.RowKit
open Go.ChangeMaps Go.MapKept
open Go.Maps
def qU (f : Int × Int × Int) (w : World) (e : Ending) (w' : World) : Prop := e = .returned (.agg #[.int .i64 f.1, .int .i64 f.2.1, .int .i64 f.2.2]) /\ Below w.heap.size w w'
theorem jY : (prog.info? 41).map (·.size) = some 3 := by kernel_rfl
theorem pH {tmps : Array Value} {w : World} {N : Nat} {x0 x1 x2 : Value} (hp : tmps.getD 4 undef = .pointer (some ⟨N, 0, none⟩)) (hg : w.heap[N]? = some (.cells #[x0, x1, x2] 41 (0, 0))) :
  (results f23 tmps).run prog w = .ok (.agg #[x0, x1, x2]) w :=
 results_cell_row results23 tmps w N 41 _ (0, 0) _ hp hg underlying41 rfl jY
theorem ff {tmps : Array Value} {w : World} {N : Nat} {x0 x1 x2 : Value} (hp : tmps.getD 4 undef = .pointer (some ⟨N, 0, none⟩)) (hg : w.heap[N]? = some (.cells #[x0, x1, x2] 41 (0, 0))) :
  (results f10 tmps).run prog w = .ok (.agg #[x0, x1, x2]) w :=
 results_cell_row results10 tmps w N 41 _ (0, 0) _ hp hg underlying41 rfl jY
theorem iR {w : World} {N : Nat} {T0 : TypeId} {a b c : Value} (x y z : Value) (h : w.heap[N]? = some (.cells #[a, b, c] T0 (0, 0))) : (((w.setCell ⟨N, 0, none⟩ x).setCell ⟨N, 1, none⟩ y).setCell ⟨N, 2, none⟩ z).heap[N]? = some (.cells #[x, y, z] T0 (0, 0)) := by
 have h1 := heap_setCell_same w N 0 _ _ x h; have h2 := heap_setCell_same _ N 1 _ _ y h1; have h3 := heap_setCell_same _ N 2 _ _ z h2; simpa using h3
theorem cr {w : World} {N : Nat} {cs : Array Value} {T0 : TypeId} (h : w.heap[N]? = some (.cells cs T0 (0, 0))) (j : Nat) : w.frozen? ⟨N, j, none⟩ = false := by simp [World.frozen?, h]
theorem gd {B : Nat} {a w : World} {N : Nat} (h : Below B a w) (hN : B <= N) (x y z : Value) : Below B a (((w.setCell ⟨N, 0, none⟩ x).setCell ⟨N, 1, none⟩ y).setCell ⟨N, 2, none⟩ z) := ((h.setCell hN x).setCell hN y).setCell hN z
theorem qE (a b : Int) (w : World) : Calls prog 23 #[.int .i64 a, .int .i64 b] w (qU (4, a, b) w) := by
 go_enter func23, ntmps23
 go_wp2_with fail
 exact bodyPost_ret (pH rfl (heap_alloc_new w _)) rfl ⟨rfl, (Below.refl _ w).alloc (Nat.le_refl _) _⟩
theorem Bj {X : Type} {f : X -> List Tx} {c : Nat} (l : List X) (h : ∀ x ∈ l, (f x).length <= c) : (l.flatMap f).length <= l.length * c := by
 induction l with
 | nil => simp
 | cons x r ih =>
   have h1 := h x (by simp); have h2 := ih (λ y hy => h y (by simp [hy])); rw [List.flatMap_cons, List.length_append, List.length_cons, Nat.add_mul, Nat.one_mul]; omega
theorem eC {X : Type} {l : List X} {a b : Nat} {f : X -> Bool} (h : fJ l a b f = true) : a <= l.length /\ l.length <= b /\ ∀ x ∈ l, f x = true := by
 unfold fJ at h; rw [Bool.and_eq_true, Bool.and_eq_true, decide_eq_true_eq, decide_eq_true_eq, List.all_eq_true] at h; exact ⟨h.1.1, h.1.2, h.2⟩
theorem AZ {made : Bool} {i : cC} (h : cQ made i = true) : (bp i).length <= 144 /\ i.states.length <= 8 := by
 obtain ⟨⟨nm, e⟩, sts⟩ := i; unfold cQ at h; by_cases h0 : sts = []
 . subst h0; rw [if_pos rfl] at h; unfold fy at h; rw [Bool.and_eq_true] at h; have := eC h.1; have h2 : nm.length <= 6 := this.2.1; exact ⟨by show nm.length <= 144; omega, by simp⟩
 . rw [if_neg h0, Bool.and_eq_true, Bool.and_eq_true] at h; obtain ⟨_, _, h3⟩ := h; obtain ⟨_, h4, h5⟩ := eC h3; refine ⟨?_, h4⟩; cases sts with
   | nil => exact absurd rfl h0
   | cons z r =>
     have h6 := h5 z (by simp); unfold eP at h6; rw [Bool.and_eq_true, Bool.and_eq_true] at h6; obtain ⟨_, h7, h8⟩ := eC h6.2.1; show (z.eqs.flatMap QEq.names).length <= 144
     have := Bj (f := QEq.names) (c := 6) z.eqs (λ q hq => by
      have := h8 q hq; unfold fy at this; rw [Bool.and_eq_true] at this; exact (eC this.1).2.1)
     omega
theorem AM {made : Bool} {n : bc} (h : eQ made n = true) : xK made n := by
 unfold eQ at h; simp only [Bool.and_eq_true] at h; obtain ⟨_, h1, h2, h3, h4⟩ := h; have a1 := (eC h1).2.1; have a2 := (eC h2).2.1; have a3 := (eC h3).2.1; refine ⟨by rw [List.length_append]; omega, by omega, λ i hi => ?_⟩; have h5 := (eC h4).2.2 i hi; have h6 := AZ h5; exact ⟨h5, by omega, by omega⟩
theorem sS {made : Bool} {p : dH} (h : dh made p = 0) : od made p = true /\ p.nodes.any ig = false := by
 unfold dh at h; split at h
 . rename_i h1; split at h
   . omega
   . rename_i h2; exact ⟨h1, by simpa using h2⟩
 . omega
theorem sR {made : Bool} {p : dH} (h : dh made p = 0) : ∀ n ∈ p.nodes, eQ made n = true := by
 have h1 := (sS h).1; unfold od at h1; rw [Bool.and_eq_true] at h1; exact (eC h1.2).2.2
theorem mG (k : Int) (s : a6) (e : fp) (r : List fp) : fu k s (e :: r) = if gB s e = true then fu (k + 1) (s.addEnum e) r else .inr k := rfl
theorem yx {k : Int} {s : a6} {n : bc} {r : List bc} {b : Int} (h : cj s n = .inr b) : fr k s (n :: r) = (4, k, b) := by rw [fr, h]
theorem vp {k : Int} {s s' : a6} {n : bc} {r : List bc} (h : cj s n = .inl s') : fr k s (n :: r) = fr (k + 1) s' r := by rw [fr, h]
theorem yY {made : Bool} {p : dH} (h : dh made p ≠ 0) : bg made p = (dh made p, 0, 0) := by rw [bg, if_neg h]
theorem wa {made : Bool} {p : dH} (h : dh made p = 0) {i : Int} (he : fu 0 .new p.enums = .inr i) : bg made p = (4, -1, i) := by rw [bg, if_pos h, he]
theorem t6 {made : Bool} {p : dH} (h : dh made p = 0) {s : a6} (he : fu 0 .new p.enums = .inl s) : bg made p = fr 0 s p.nodes := by rw [bg, if_pos h, he]
theorem yZ {w0 : World} {L : List Value} {p : dH} (made : Bool) (hL : ei w0 L p) (hq : ∀ x ∈ p.nodes, (eH x).length <= 1048576) :
  ∀ w, Below w0.heap.size w0 w -> Calls prog 10 #[.agg L.toArray, .bool made] w (qU (bg made p) w) := by
 intro w hb; have HRI := zH (lM made hL hq); have HB := zH hb; have hsz := hb.size; obtain ⟨ev, nv, rfl, he, hn⟩ := hL; obtain ⟨E, ek, rfl, hec, hem, hee⟩ := he; obtain ⟨C, ck, rfl, hcc, hmc, hce⟩ := hn; have hel : p.enums.length <= 9223372036854775807 := (by have h : p.enums.length <= ek := hec; unfold maxLen at hem; omega); have hnl : p.nodes.length <= 9223372036854775807 := (by have h : p.nodes.length <= ck := hcc; unfold maxLen at hmc; omega); have HEE := zH hee; have HCE := zH hce; clear hb hec hem hee hcc hmc hce hq; by_cases h0 : dh made p = 0
 . have H0 := zH h0; rw [h0] at HRI; clear h0; go_enter func10, ntmps10
   go_wp2_with fail
   have a1 := zH (zA w (.cells #[.slice E p.enums.length ek, .slice C p.nodes.length ck] 38)); have HV := zH (a1.o.alloc a1.o.size (.cells #[.int .i64 0, .int .i64 0, .int .i64 0] 41)); have BF := zH (show ((w.alloc (.cells #[.slice E p.enums.length ek, .slice C p.nodes.length ck] 38)).alloc (.cells #[.int .i64 0, .int .i64 0, .int .i64 0] 41)).heap[w.heap.size + 1]? = some (.cells #[.int .i64 0, .int .i64 0, .int .i64 0] 41 (0, 0)) from aB (by simp)); have BP := zH (show ((w.alloc (.cells #[.slice E p.enums.length ek, .slice C p.nodes.length ck] 38)).alloc (.cells #[.int .i64 0, .int .i64 0, .int .i64 0] 41)).heap[w.heap.size]? = some (.cells #[.slice E p.enums.length ek, .slice C p.nodes.length ck] 38 (0, 0)) from aQ (heap_alloc_new w _)); generalize (w.alloc (.cells #[.slice E p.enums.length ek, .slice C p.nodes.length ck] 38)).alloc (.cells #[.int .i64 0, .int .i64 0, .int .i64 0] 41) = V at *
   go_wp2_with (first
    | (go_at_call 12; (with_reducible refine (HRI.o _ (HB.o.trans (HV.o.mono hsz))).mono ?_); rintro e w7 ⟨rfl, hb7⟩; obtain ⟨V1, rfl⟩ := zW w7; have HB7 := zH (HV.o.trans (hb7.mono HV.o.size)); have BF7 := zH (ag hb7 BF.o); have BP7 := zH (ag hb7 BP.o); clear hb7)
    | (go_at_call 21; (with_reducible refine (rG _).mono ?_); rintro e w8 ⟨P, e1, c1, n1, t1, rfl, hs8, hb8, le1, lc1, ln1, lt1, _⟩; obtain ⟨V2, rfl⟩ := zW w8; have HS8 := zH hs8; have HB8 := zH hb8; have BF8 := zH (ag hb8 BF7.o); have BP8 := zH (ag hb8 BP7.o); obtain ⟨p0, p1⟩ := bM BP8.o; clear hb8 hs8))
   have hs17 := HB7.o.size; have hszF := ar BF7.o; have HBW := zH (HB.o.trans (HB7.o.mono hsz)); have hszW := HBW.o.size; clear p0 p1; go_loopg [24] p.enums.length (λ g v wr => ∃ (k : Nat) (s : a6), k + g = p.enums.length /\ v = .int .i64 k /\ fu 0 .new p.enums = fu k s (p.enums.drop k) /\ aY wr P e1 c1 n1 t1 s /\ Below V1.heap.size V1 wr)
   case atStart => exact ⟨0, _, by omega, rfl, rfl, HS8.o, HB8.o⟩
   case round =>
    obtain ⟨wq, rfl⟩ := zW wr; obtain ⟨k, s, hkg, rfl, hto, hsq, hbq⟩ := hrel; have HK := zH hkg; have HTO := zH hto; have HSQ := zH hsq; have HBQ := zH hbq; have HQ0 := zH (HBW.o.trans (hbq.mono hszW)); have BFQ := zH (ag hbq BF7.o); have BPQ := zH (ag hbq BP7.o); have hkl : k <= p.enums.length := zO; clear hkg hto hsq hbq; by_cases hlt : k < p.enums.length
    . obtain ⟨q, hq⟩ := zG hlt; have HDR := zH (cx hq); obtain ⟨Lq, hEq, hRq⟩ := HEE.o k q hq; have HEQ := zH hRq; obtain ⟨s0, A1, m1, k1, rfl⟩ := hRq.shape; obtain ⟨a, ea, ha, haa, d0, d1⟩ := BD (hEq.under HQ0.o); subst ea; have hal := zH (zA wq (.cells #[.string s0, .slice A1 m1 k1] 70)); have HADD := zH (ur HEQ.o (HSQ.o.under hal.o) (HQ0.o.trans (hal.o.mono HQ0.o.size))); clear hq hEq hRq; cases hok : gB s q
      . have HOK := zH hok; have HNO := zH (wa (made := made) H0.o (show fu 0 .new p.enums = .inr (k : Int) by rw [HTO.o, HDR.o, mG, if_neg (by rw [hok]; simp)])); clear hok
        go_wp2_with (first
         | (go_at_call 22; (with_reducible refine HADD.o.mono ?_); rintro e w9 ⟨he, hk9, _⟩; rw [HOK.o] at he; subst he; obtain ⟨V9, rfl⟩ := zW w9; have HB9 := zH ((HBQ.o.trans (hal.o.mono HBQ.o.size)).trans (hk9.below (B := V1.heap.size) (by intro x hx; simp only [List.mem_cons, List.not_mem_nil, or_false] at hx; rcases hx with rfl | rfl <;> omega) (Nat.le_trans HBQ.o.size hal.o.size)))
            clear hk9)
         | (go_at_call 23; (with_reducible refine (qE _ _ _).mono ?_); rintro e w10 ⟨rfl, hb10⟩; obtain ⟨V10, rfl⟩ := zW w10; have HB10 := zH (HB9.o.trans (hb10.mono HB9.o.size)); have BF10 := zH (ag HB10.o BF7.o); obtain ⟨q0, q1, q2⟩ := fh BF10.o; have g0 := cr BF10.o 0; have g1 := cr BF10.o 1; have g2 := cr BF10.o 2; clear hb10))
        exact bodyPost_ret (ff rfl (iR _ _ _ BF10.o)) rfl ⟨by rw [HNO.o], gd (HB7.o.trans (HB10.o.mono hs17)) zO _ _ _⟩
      . have HOK := zH hok; have HNX := zH (show fu 0 .new p.enums = fu (k + 1 : Nat) (s.addEnum q) (p.enums.drop (k + 1)) by rw [HTO.o, HDR.o, mG, if_pos hok]; rfl); clear hok
        go_wp2_with (go_at_call 22
                     (with_reducible refine HADD.o.mono ?_); rintro e w9 ⟨he, hk9, hs9⟩; rw [HOK.o] at he; subst he; have HB9 := zH ((HBQ.o.trans (hal.o.mono HBQ.o.size)).trans (hk9.below (B := V1.heap.size) (by intro x hx; simp only [List.mem_cons, List.not_mem_nil, or_false] at hx; rcases hx with rfl | rfl <;> omega) (Nat.le_trans HBQ.o.size hal.o.size)))
                     have HS9 := zH (hs9 HOK.o); clear hk9 hs9)
        go_roundg (p.enums.length - (k + 1))
        case measure => have := HK.o; omega
        case rel => exact ⟨k + 1, _, by omega, by go_num, HNX.o, HS9.o, HB9.o⟩
    . have hke : k = p.enums.length := by omega
      have HCN := zH (t6 (made := made) H0.o (show fu 0 .new p.enums = .inl s by rw [HTO.o, hke, List.drop_length]; rfl)); obtain ⟨p0, p1⟩ := bM BPQ.o; clear hke; go_wp2_with fail
      clear p0 p1; go_loopg [39] p.nodes.length (λ g v wr => ∃ (j : Nat) (sj : a6), j + g = p.nodes.length /\ v = .int .i64 j /\ fr 0 s p.nodes = fr j sj (p.nodes.drop j) /\ aY wr P e1 c1 n1 t1 sj /\ Below V1.heap.size V1 wr)
      case atStart => exact ⟨0, _, by omega, rfl, rfl, HSQ.o, HBQ.o⟩
      case round =>
       obtain ⟨wz, rfl⟩ := zW wr; obtain ⟨j, sj, hjg, rfl, htz, hsz', hbz⟩ := hrel; have HJ := zH hjg; have HTZ := zH htz; have HSZ := zH hsz'; have HBZ := zH hbz; have HZ0 := zH (HBW.o.trans (hbz.mono hszW)); have BFZ := zH (ag hbz BF7.o); have hjl : j <= p.nodes.length := zO; clear hjg htz hsz' hbz; by_cases hlt2 : j < p.nodes.length
       . obtain ⟨n, hn⟩ := zG hlt2; have HDR := zH (cx hn); have HFIT := zH (AM (sR H0.o n (List.mem_of_getElem? hn))); obtain ⟨Ln, hEn, hRn⟩ := HCE.o j n hn; have HNA := zH hRn; obtain ⟨s0, A1, m1, k1, A2, m2, k2, A3, m3, k3, A4, m4, k4, rfl⟩ := hRn.shape; obtain ⟨a, ea, ha, haa, d0, d1, d2, d3, d4⟩ := dR (hEn.under HZ0.o); subst ea; have hal := zH (zA wz (.cells #[.string s0, .slice A1 m1 k1, .slice A2 m2 k2, .slice A3 m3 k3, .slice A4 m4 k4] 34)); have HADD := zH (uo HNA.o HFIT.o (HZ0.o.trans (hal.o.mono HZ0.o.size)) (HSZ.o.under hal.o) (Nat.le_trans hszW ln1) (Nat.le_trans hszW lt1)); clear hn hEn hRn; cases hst : cj sj n with
         | inr b =>
           have HST := zH hst; have HNO := zH (show bg made p = (4, (j : Int), b) by rw [HCN.o, HTZ.o, HDR.o, yx hst]); clear hst
           go_wp2_with (first
            | (go_at_call 24; (with_reducible refine HADD.o.mono ?_); rintro e w9 ⟨he, hk9⟩; rw [HST.o] at he; replace he : e = .returned (.tuple #[.int .i64 b, .bool false]) := he; subst he; obtain ⟨V9, rfl⟩ := zW w9; have HB9 := zH ((HBZ.o.trans (hal.o.mono HBZ.o.size)).trans (hk9.below (B := V1.heap.size) (by intro x hx; simp only [List.mem_cons, List.not_mem_nil, or_false] at hx; rcases hx with rfl | rfl <;> omega) (Nat.le_trans HBZ.o.size hal.o.size)))
               clear hk9)
            | (go_at_call 23; (with_reducible refine (qE _ _ _).mono ?_); rintro e w10 ⟨rfl, hb10⟩; obtain ⟨V10, rfl⟩ := zW w10; have HB10 := zH (HB9.o.trans (hb10.mono HB9.o.size)); have BF10 := zH (ag HB10.o BF7.o); obtain ⟨q0, q1, q2⟩ := fh BF10.o; have g0 := cr BF10.o 0; have g1 := cr BF10.o 1; have g2 := cr BF10.o 2; clear hb10))
           exact bodyPost_ret (ff rfl (iR _ _ _ BF10.o)) rfl ⟨by rw [HNO.o], gd (HB7.o.trans (HB10.o.mono hs17)) zO _ _ _⟩
         | inl s2 =>
           have HST := zH hst; have HNX := zH (show fr 0 s p.nodes = fr (j + 1 : Nat) s2 (p.nodes.drop (j + 1)) by rw [HTZ.o, HDR.o, vp hst]; rfl); clear hst
           go_wp2_with (go_at_call 24
                        (with_reducible refine HADD.o.mono ?_); rintro e w9 ⟨he, hk9⟩; rw [HST.o] at he; obtain ⟨he, hs9⟩ : e = .returned (.tuple #[.int .i64 0, .bool true]) /\ aY w9 P e1 c1 n1 t1 s2 := he; subst he; have HB9 := zH ((HBZ.o.trans (hal.o.mono HBZ.o.size)).trans (hk9.below (B := V1.heap.size) (by intro x hx; simp only [List.mem_cons, List.not_mem_nil, or_false] at hx; rcases hx with rfl | rfl <;> omega) (Nat.le_trans HBZ.o.size hal.o.size)))
                        have HS9 := zH hs9; clear hk9 hs9)
           go_roundg (p.nodes.length - (j + 1))
           case measure => have := HJ.o; omega
           case rel => exact ⟨j + 1, _, by omega, by go_num, HNX.o, HS9.o, HB9.o⟩
       . have hje : j = p.nodes.length := by omega
         have HY := zH (show bg made p = (0, 0, 0) by rw [HCN.o, HTZ.o, hje, List.drop_length]; rfl); obtain ⟨q0, q1, q2⟩ := fh BFZ.o; have g0 := cr BFZ.o 0; have g1 := cr BFZ.o 1; have g2 := cr BFZ.o 2; clear hje; go_wp2_with fail
         exact bodyPost_ret (ff rfl (iR _ _ _ BFZ.o)) rfl ⟨by rw [HY.o], gd (HB7.o.trans (HBZ.o.mono hs17)) zO _ _ _⟩
 . have H0 := zH (yY h0); have hd : (dh made p != 0) = true := (by simp [h0]); generalize dh made p = r at *; clear h0; go_enter func10, ntmps10
   go_wp2_with fail
   have a1 := zH (zA w (.cells #[.slice E p.enums.length ek, .slice C p.nodes.length ck] 38)); have HV := zH (a1.o.alloc a1.o.size (.cells #[.int .i64 0, .int .i64 0, .int .i64 0] 41)); have BF := zH (show ((w.alloc (.cells #[.slice E p.enums.length ek, .slice C p.nodes.length ck] 38)).alloc (.cells #[.int .i64 0, .int .i64 0, .int .i64 0] 41)).heap[w.heap.size + 1]? = some (.cells #[.int .i64 0, .int .i64 0, .int .i64 0] 41 (0, 0)) from aB (by simp)); generalize (w.alloc (.cells #[.slice E p.enums.length ek, .slice C p.nodes.length ck] 38)).alloc (.cells #[.int .i64 0, .int .i64 0, .int .i64 0] 41) = V at *
   go_wp2_with (go_at_call 12
                (with_reducible refine (HRI.o _ (HB.o.trans (HV.o.mono hsz))).mono ?_); rintro e w7 ⟨rfl, hb7⟩; obtain ⟨V1, rfl⟩ := zW w7; have HB7 := zH (HV.o.trans (hb7.mono HV.o.size)); have BF7 := zH (ag hb7 BF.o); obtain ⟨q0, q1, q2⟩ := fh BF7.o; have g0 := cr BF7.o 0; have g1 := cr BF7.o 1; have g2 := cr BF7.o 2; clear hb7)
   exact bodyPost_ret (ff rfl (iR _ _ _ BF7.o)) rfl ⟨by rw [H0.o], gd HB7.o zO _ _ _⟩
end Go.Proofs.YtdcjlihaldhhjaaGreatDoor
