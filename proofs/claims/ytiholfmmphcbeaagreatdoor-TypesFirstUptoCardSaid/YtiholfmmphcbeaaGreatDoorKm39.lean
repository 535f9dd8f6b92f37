import Derived.Test.YtiholfmmphcbeaaGreatDoorKm07
import Derived.Test.YtiholfmmphcbeaaGreatDoorKm38
set_option maxHeartbeats 2000000
set_option maxRecDepth 100000
namespace Go.Proofs.YtiholfmmphcbeaaGreatDoor
open _root_.Go.Proofs.Tryz
open Go.RowKit
structure TyH where
 N : Nat
 k : Nat
 mv : Nat
 mf : Nat
 ev : Value
 nv : Value
 iv : Value
def uz (H : TyH) (r : Bool) : Array Value := #[H.ev, H.nv, H.iv, .pointer (some ⟨H.k, 0, none⟩), .map (some H.mv), .map (some H.mf), .bool r]
def lB (l : List (Tx × Int)) : List (Tx × Value) := l.map λ p => (p.1, .int .i64 p.2)
def uj (B : Nat) (w : World) (v : Value) (s : SgE) : Prop := ∃ a b, v = .agg #[.slice none 0 0, a, b] /\ cy B w a s.ins /\ cy B w b s.outs
def iw (B : Nat) (w : World) (m : Nat) (l : List (Tx × SgE)) : Prop :=
 ∃ L : List (Tx × Value), ax w m L /\ L.map Prod.fst = l.map Prod.fst /\ ∀ (i : Nat) p q, L[i]? = some p -> l[i]? = some q -> uj B w p.2 q.2
structure aJ (B : Nat) (w : World) (H : TyH) (kv : Value) (t : TSt) : Prop where
 box : w.heap[H.N]? = some (.cells (uz H t.ref) 94 (0, 0))
 knot : dI B w H.k kv t.ks
 low : B <= H.N
 vars : ax w H.mv (lB t.vars)
 funs : iw B w H.mf t.funs
structure au (B : Nat) (w w' : World) : Prop where
 below : Below B w w'
 cells : ∀ (g : Nat) cs T0, T0 ≠ 146 -> T0 ≠ 150 -> T0 ≠ 94 -> w.heap[g]? = some (.cells cs T0 (0, 0)) -> w'.heap[g]? = some (.cells cs T0 (0, 0))
 maps : ∀ (g : Nat) es c, w.heap[g]? = some (.map es c) -> w'.heap[g]? = some (.map es c)
theorem au.refl (B : Nat) (w : World) : au B w w := ⟨Below.refl _ _, λ _ _ _ _ _ _ h => h, λ _ _ _ h => h⟩
theorem au.trans {B : Nat} {a b c : World} (h : au B a b) (g : au B b c) : au B a c :=
 ⟨h.below.trans g.below, λ k cs T0 h1 h2 h3 h4 => g.cells k cs T0 h1 h2 h3 (h.cells k cs T0 h1 h2 h3 h4), λ k es c h1 => g.maps k es c (h.maps k es c h1)⟩
theorem au.of_below {B : Nat} {w w' : World} (h : Below w.heap.size w w') (hB : B <= w.heap.size) : au B w w' :=
 ⟨h.mono hB, λ g _ _ _ _ _ h4 => (h.block g (ab h4)).trans h4, λ g _ _ h4 => (h.block g (ab h4)).trans h4⟩
theorem au.own {B C : Nat} {w w' : World} (h : au B w w') {v : Value} {l : List Int} (hO : cy C w v l) : cy C w' v l := jQ hO λ g o hg ho => by
 obtain ⟨_, _, cur, hc⟩ := et hO hg
 rw [hc] at ho
 cases ho
 exact h.cells g cur 3 zD zD zD hc
theorem au.sg {B : Nat} {w w' : World} (h : au B w w') {v : Value} {s : SgE} (hS : uj B w v s) : uj B w' v s := by
 obtain ⟨a, b, rfl, h1, h2⟩ := hS; exact ⟨a, b, rfl, h.own h1, h.own h2⟩
theorem au.map {B : Nat} {w w' : World} (h : au B w w') {m : Nat} {l : List (Tx × Value)} (hM : ax w m l) : ax w' m l := by
 obtain ⟨es, c, hb, hr⟩ := hM; exact ⟨es, c, h.maps m es c hb, hr⟩
theorem au.funsAt {B : Nat} {w w' : World} (h : au B w w') {m : Nat} {l : List (Tx × SgE)} (hF : iw B w m l) : iw B w' m l := by
 obtain ⟨L, h1, h2, h3⟩ := hF; exact ⟨L, h.map h1, h2, λ i p q hp hq => h.sg (h3 i p q hp hq)⟩
section
variable {B : Nat} {w : World} {H : TyH} {kv : Value} {t : TSt}
theorem dI.foot {k : Nat} {S : KS} (h : dI B w k kv S) {b : Nat} (hb : rG k kv b) : ∃ cs, w.heap[b]? = some (.cells cs 146 (0, 0)) ∨ w.heap[b]? = some (.cells cs 150 (0, 0)) := by
 obtain ⟨E, ρ, h⟩ := h; rcases hb with rfl | hb
 . exact ⟨_, .inl h.box⟩
 . rcases h.row with ⟨rfl, _⟩ | ⟨g, cap, cur, rfl, _, h3, _⟩
   . simp [Value.ownBlock] at hb
   . obtain rfl : g = b := by simpa [Value.ownBlock] using hb
     exact ⟨cur, .inr h3⟩
theorem aJ.apart (h : aJ B w H kv t) : ¬ rG H.k kv H.N := λ hf => by
 obtain ⟨cs, h1 | h1⟩ := h.knot.foot hf
 . rw [h.box] at h1
   injection h1 with h1
   injection h1 with _ h1 _
   exact absurd h1 zD
 . rw [h.box] at h1
   injection h1 with h1
   injection h1 with _ h1 _
   exact absurd h1 zD
theorem dX.kept {k : Nat} {S S' : KS} {w' : World} (h : dI B w k kv S) (hm : dX B k kv S' w w') (hB : B <= w.heap.size) : au B w w' := by
 obtain ⟨kv', _, h2, _⟩ := hm; refine ⟨h2.below hB λ b hb => (h.lt hb).1, λ g cs T0 n1 n2 _ hg => h2.heap hg λ hf => ?_, λ g es c hg => h2.heap hg λ hf => ?_⟩
 . obtain ⟨cs', h1 | h1⟩ := h.foot hf
   . rw [hg] at h1; injection h1 with h1; injection h1 with _ h1 _; exact n1 h1
   . rw [hg] at h1; injection h1 with h1; injection h1 with _ h1 _; exact n2 h1
 . obtain ⟨cs', h1 | h1⟩ := h.foot hf <;> (rw [hg] at h1; cases h1)
theorem aJ.under {w' : World} (h : aJ B w H kv t) (hb : Below w.heap.size w w') (hB : B <= w.heap.size) : aJ B w' H kv t :=
 have hk : au B w w' := au.of_below hb hB
 ⟨(hb.block _ (ab h.box)).trans h.box, h.knot.under hb, h.low, hk.map h.vars, hk.funsAt h.funs⟩
theorem aJ.moved {S' : KS} {w' : World} (h : aJ B w H kv t) (hm : dX B H.k kv S' w w') (hB : B <= w.heap.size) : ∃ kv', aJ B w' H kv' { t with ks := S' } := by
 have hk := hm.kept h.knot hB; obtain ⟨kv', h1, h2, _⟩ := hm; exact ⟨kv', h2.heap h.box h.apart, h1, h.low, hk.map h.vars, hk.funsAt h.funs⟩
theorem aJ.refuse (h : aJ B w H kv t) : aJ B (w.setCell ⟨H.N, 6, none⟩ (.bool true)) H kv { t with ref := true } /\ au B w (w.setCell ⟨H.N, 6, none⟩ (.bool true)) := by
 have hne : ∀ g o, w.heap[g]? = some o -> g ≠ H.N -> (w.setCell ⟨H.N, 6, none⟩ (.bool true)).heap[g]? = some o := λ g o ho hg => (Below.heap_setCell _ ⟨H.N, 6, none⟩ _ g hg).trans ho; have hk : au B w (w.setCell ⟨H.N, 6, none⟩ (.bool true)) := by
  refine ⟨(Below.refl B w).setCell (p := ⟨H.N, 6, none⟩) h.low _, λ g cs T0 _ _ n3 hg => hne g _ hg λ e => ?_, λ g es c hg => hne g _ hg λ e => ?_⟩
  . subst e; rw [h.box] at hg; injection hg with hg; injection hg with _ hg _; exact n3 hg.symm
  . subst e; rw [h.box] at hg; cases hg
 refine ⟨⟨?_, ?_, h.low, hk.map h.vars, hk.funsAt h.funs⟩, hk⟩
 . rw [Joins.block_setCell h.box]; rfl
 . refine h.knot.kept (M := (· = H.N)) ((ba.refl (· = H.N) w).set (a := ⟨H.N, 6, none⟩) (.inl rfl) _) λ b hb e => ?_; subst e; exact h.apart hb
theorem aJ.cellsAt (h : aJ B w H kv t) : w.cell? ⟨H.N, 3, none⟩ = some (.pointer (some ⟨H.k, 0, none⟩)) /\ w.cell? ⟨H.N, 4, none⟩ = some (.map (some H.mv)) /\ w.cell? ⟨H.N, 5, none⟩ = some (.map (some H.mf)) /\ w.cell? ⟨H.N, 6, none⟩ = some (.bool t.ref) /\ w.frozen? ⟨H.N, 6, none⟩ = false := by
 have hb := h.box; unfold uz at hb; refine ⟨?_, ?_, ?_, ?_, bc hb 6⟩ <;> simp [World.cell?, hb]
end
def bJ (w : World) (v : Value) (l : List Int) : Prop :=
 ∃ A c, v = .slice A l.length c /\ l.length <= c /\ c <= maxLen /\ (l ≠ [] -> ∃ g o cs, A = some ⟨g, o, none⟩ /\ w.heap[g]? = some (.cells cs 3 (0, 0)) /\ ∀ (j : Nat) x, l[j]? = some x -> cs[o + j]? = some (.int .i64 x))
theorem au.nums {B : Nat} {w w' : World} (h : au B w w') {v : Value} {l : List Int} (hN : bJ w v l) : bJ w' v l := by
 obtain ⟨A, c, rfl, h1, h2, h3⟩ := hN; refine ⟨A, c, rfl, h1, h2, λ hl => ?_⟩; obtain ⟨g, o, cs, rfl, h4, h5⟩ := h3 hl; exact ⟨g, o, cs, rfl, h.cells g cs 3 zD zD zD h4, h5⟩
theorem bJ.get {w : World} {g o n c : Nat} {l : List Int} (h : bJ w (.slice (some ⟨g, o, none⟩) n c) l) {j : Nat} {x : Int} (hx : l[j]? = some x) : w.cell? ⟨g, o + j, none⟩ = some (.int .i64 x) := by
 obtain ⟨A, c', e, _, _, h3⟩ := h; injection e with e1 _ _; obtain ⟨g', o', cs, e2, h4, h5⟩ := h3 (λ e => by rw [e] at hx; cases hx); rw [e2] at e1; injection e1 with e1; injection e1 with e1 e3 _; subst e1 e3; rw [Joins.cell_of_block h4]; exact h5 j x hx
theorem cy.nums {B : Nat} {w : World} {v : Value} {l : List Int} (h : cy B w v l) : bJ w v l := by
 by_cases h0 : l = []
 . subst h0; rcases h.2 with ⟨rfl, _⟩ | ⟨g, cap, cur, rfl, _, _, _, hm, _⟩
   . exact ⟨none, 0, rfl, Nat.le_refl _, by unfold maxLen; omega, λ e => absurd rfl e⟩
   . exact ⟨_, cap, rfl, by simp, hm, λ e => absurd rfl e⟩
 . have hp : 0 < l.length := List.length_pos_iff.2 h0; obtain ⟨g, c, rfl, _, _, hc, hm, hcell, _⟩ := h.at_ hp; obtain ⟨_, _, cur, hcur⟩ := et h (g := g) rfl; refine ⟨_, c, rfl, hc, hm, λ _ => ⟨g, 0, cur, rfl, hcur, λ j x hx => ?_⟩⟩; have := hcell j x hx; rw [Joins.cell_of_block hcur] at this; rwa [Nat.zero_add]
def yW (B : Nat) (H : TyH) (t' : TSt) (W : World) (e : Ending) (w' : World) : Prop := e = .returned (.tuple #[]) /\ (∃ kv', aJ B w' H kv' t') /\ au B W w'
def iu (B : Nat) (H : TyH) (t' : TSt) (a : Int) (W : World) (e : Ending) (w' : World) : Prop := e = .returned (.int .i64 a) /\ (∃ kv', aJ B w' H kv' t') /\ au B W w'
def re (B : Nat) (H : TyH) (t' : TSt) (l : List Int) (W : World) (e : Ending) (w' : World) : Prop := ∃ v, e = .returned v /\ cy B w' v l /\ (∃ kv', aJ B w' H kv' t') /\ au B W w'
section
variable {B : Nat} {w : World} {H : TyH} {kv : Value} {t : TSt}
theorem jL (h : aJ B w H kv t) (hB : B <= w.heap.size) (a m : Int) (hm : m < 9223372036854775808) :
  Calls prog 102 #[.pointer (some ⟨H.N, 0, none⟩), .int .i64 a, .int .i64 m] w (yW B H (t.is a m) w) := by
 obtain ⟨c3, _, _, c6, f6⟩ := h.cellsAt; have HM := zH (Du h.knot a m hm); have H0 := zH h; have HB := zH hB; clear h hB hm; by_cases hk : gU t.ks a m = true
 . have HK := zH hk; have HS := zH (show t.is a m = { t with ks := gy t.ks a m } by unfold TSt.is; rw [hk]; simp); clear hk; go_enter func102, ntmps102
   go_wp2_with (go_at_call 141
                (with_reducible refine HM.o.mono ?_); rintro e w1 ⟨he, hm1⟩; rw [HK.o] at he; subst he; have HM1 := zH hm1; clear hm1)
   exact bodyPost_ret (results_none rfl _ _ _) rfl ⟨rfl, by rw [HS.o]; exact H0.o.moved HM1.o HB.o, HM1.o.kept H0.o.knot HB.o⟩
 . have HK := zH (Bool.eq_false_iff.2 hk); have HS := zH (show t.is a m = { t with ks := gy t.ks a m, ref := true } by unfold TSt.is; rw [Bool.eq_false_iff.2 hk]; simp); clear hk; go_enter func102, ntmps102
   go_wp2_with (go_at_call 141
                (with_reducible refine HM.o.mono ?_); rintro e w1 ⟨he, hm1⟩; rw [HK.o] at he; subst he; obtain ⟨V1, rfl⟩ := zW w1; obtain ⟨kv1, ht1⟩ := H0.o.moved hm1 HB.o; have HK1 := zH (hm1.kept H0.o.knot HB.o); have HR := zH ht1.refuse; obtain ⟨_, _, _, d6, g6⟩ := ht1.cellsAt; clear hm1 ht1)
   exact bodyPost_ret (results_none rfl _ _ _) rfl ⟨rfl, ⟨kv1, by rw [HS.o]; exact HR.o.1⟩, HK1.o.trans HR.o.2⟩
theorem fe (h : aJ B w H kv t) (hB : B <= w.heap.size) (hn : t.ks.n < 4194303) (m : Int) (hm : m < 9223372036854775808) :
  Calls prog 142 #[.pointer (some ⟨H.N, 0, none⟩), .int .i64 m] w (iu B H (t.known m) t.ks.n w) := by
 obtain ⟨c3, _, _, c6, f6⟩ := h.cellsAt; have HA := zH (pq h.knot hn hB); have H0 := zH h; have HB := zH hB; have HM := zH hm; clear h hB hm; go_enter func142, ntmps142
 go_wp2_with (first
  | (go_at_call 31; (with_reducible refine HA.o.mono ?_); rintro e w1 ⟨rfl, hm1⟩; obtain ⟨V1, rfl⟩ := zW w1; obtain ⟨kv1, ht1⟩ := H0.o.moved hm1 HB.o; have HK1 := zH (hm1.kept H0.o.knot HB.o); have HB1 := zH (Nat.le_trans HB.o HK1.o.below.size); have HI := zH (jL (t := t.add) ht1 HB1.o (t.ks.n : Int) m HM.o); clear hm1 ht1)
  | (go_at_call 102; (with_reducible refine HI.o.mono ?_); rintro e w2 ⟨rfl, ht2, hk2⟩; obtain ⟨V2, rfl⟩ := zW w2; have HT2 := zH ht2; have HK2 := zH (HK1.o.trans hk2); clear ht2 hk2))
 go_ret; exact ⟨rfl, HT2.o, HK2.o⟩
theorem fJ (h : aJ B w H kv t) (hB : B <= w.heap.size) {v : Value} {a : Int} {r : List Int} (hl : bJ w v (a :: r)) :
  Calls prog 61 #[.pointer (some ⟨H.N, 0, none⟩), v] w (iu B H (t.ties a r) a w) := by
 have HL := zH hl; obtain ⟨A, c, rfl, hc, hm, hr⟩ := hl; obtain ⟨g, o, cs, rfl, _, _⟩ := hr (by simp); have h1c : 1 <= c := (by simp at hc; omega); have hrc : r.length <= 9223372036854775807 := (by simp at hc; unfold maxLen at hm; omega); have HB := zH hB; have H0 := zH h; have hfa := HL.o.get (j := 0) (x := a) rfl; clear h hB hr; by_cases hcc : c = 1
 . obtain rfl : r = [] := List.eq_nil_of_length_eq_zero (by simp at hc; omega); subst hcc; rw [Nat.add_zero] at hfa; clear hc hm HL; go_enter func61, ntmps61
   go_wp2_with fail
   go_loopg [10] 0 (λ g v wr => g = 0 /\ v = .int .i64 0 /\ wr = w)
   case atStart => exact ⟨rfl, rfl, rfl⟩
   case round =>
    obtain ⟨_, rfl, rfl⟩ := hrel; go_wp2_with fail
    go_ret; exact ⟨rfl, ⟨kv, H0.o⟩, au.refl _ _⟩
 . clear hfa hc hm; go_enter func61, ntmps61
   go_wp2_with fail
   go_loopg [10] r.length (λ g v wr => ∃ k : Nat, k + g = r.length /\ v = .int .i64 k /\ (∃ kv', aJ B wr H kv' (t.ties a (r.take k))) /\ au B w wr)
   case atStart => exact ⟨0, by omega, rfl, ⟨kv, H0.o⟩, au.refl _ _⟩
   case round =>
    obtain ⟨k, hkg, rfl, ⟨kv1, hty⟩, hke⟩ := hrel; obtain ⟨wz, rfl⟩ := zW wr; have HK := zH hkg; have HT := zH hty; have HE := zH hke; have HBZ := zH (Nat.le_trans HB.o hke.below.size); have hkl : k <= r.length := zO; have HLZ := zH (hke.nums HL.o); have hfa := HLZ.o.get (j := 0) (x := a) rfl; rw [Nat.add_zero] at hfa; clear hkg hty hke; by_cases hlt : k < r.length
    . obtain ⟨x, hx⟩ := zG hlt; have hfx := HLZ.o.get (j := k + 1) (x := x) (by simpa using hx); rw [show o + (k + 1) = o + 1 + k by omega] at hfx
      have HTS := zH (show t.ties a (r.take (k + 1)) = (t.ties a (r.take k)).tie a x by
       obtain ⟨hk2, rfl⟩ := List.getElem?_eq_some_iff.1 hx; rw [List.take_succ_eq_append_getElem hk2, TSt.ties_app]; rfl)
      obtain ⟨c3, _, _, c6, f6⟩ := HT.o.cellsAt; have HM := zH (E7 (HT.o.under (zB wz).drew HBZ.o).knot a x); clear hx; cases htk : jA (t.ties a (r.take k)).ks a x
      . have HTK := zH htk; clear htk; go_wp2_with fail
        have KT := zH (show (λ W : World => W.cell? ⟨H.N, 3, none⟩ = some (.pointer (some ⟨H.k, 0, none⟩)) /\ W.cell? ⟨g, o, none⟩ = some (.int .i64 a)) wz.drew from ⟨c3, hfa⟩); refine wp_region_held_drew (S := (λ W => W.cell? ⟨H.N, 3, none⟩ = some (.pointer (some ⟨H.k, 0, none⟩)) /\ W.cell? ⟨g, o, none⟩ = some (.int .i64 a))) zK ?_ (λ hHeld => ?_)
        . exact KT.o
        refine aa 0 ?_; refine aa 1 ?_; refine aa 2 ?_; refine aa 3 ?_; refine aa 4 ?_; refine aa 5 ?_; refine aa 6 ?_; refine aa 7 ?_; refine aq 8 zK rfl (λ K hK => ?_); go_simp
        (go_at_call 106
         (with_reducible refine (HM.o).mono ?_); rintro e w8 ⟨he, hm8⟩; rw [HTK.o] at he; subst he; obtain ⟨V8, rfl⟩ := zW w8; obtain ⟨kv8, ht8⟩ := (HT.o.under (zB wz).drew HBZ.o).moved hm8 HBZ.o; have HT8 := zH ht8; have HE8 := zH ((au.of_below (zB wz).drew HBZ.o).trans (hm8.kept (HT.o.under (zB wz).drew HBZ.o).knot HBZ.o)); have HA8 := zH (by have := (HE8.o.nums HLZ.o).get (j := 0) (x := a) rfl; rwa [Nat.add_zero] at this : V8.cell? ⟨g, o, none⟩ = some (.int .i64 a)); clear hm8 ht8)
        refine hK.out _ _ (⟨HT8.o.cellsAt.1, HA8.o⟩) (λ hHeld => ?_); clear hK K; try simp only [Act.put, aO, aM, aN]
        refine aa 9 ?_; refine wpAnyH_done zK ?_ _; clear KT; obtain ⟨d3, _, _, d6, g6⟩ := HT8.o.cellsAt; have HR := zH HT8.o.refuse; go_wp2_with fail
        go_roundg (r.length - (k + 1))
        case measure => have := HK.o; omega
        case rel => exact ⟨k + 1, by omega, by go_num, ⟨kv8, by have := HR.o.1; rw [HTS.o]; unfold TSt.tie; rw [HTK.o]; simpa using this⟩, (HE.o.trans HE8.o).trans HR.o.2⟩
      . have HTK := zH htk; clear htk; go_wp2_with fail
        have KT := zH (show (λ W : World => W.cell? ⟨H.N, 3, none⟩ = some (.pointer (some ⟨H.k, 0, none⟩)) /\ W.cell? ⟨g, o, none⟩ = some (.int .i64 a)) wz.drew from ⟨c3, hfa⟩); refine wp_region_held_drew (S := (λ W => W.cell? ⟨H.N, 3, none⟩ = some (.pointer (some ⟨H.k, 0, none⟩)) /\ W.cell? ⟨g, o, none⟩ = some (.int .i64 a))) zK ?_ (λ hHeld => ?_)
        . exact KT.o
        refine aa 0 ?_; refine aa 1 ?_; refine aa 2 ?_; refine aa 3 ?_; refine aa 4 ?_; refine aa 5 ?_; refine aa 6 ?_; refine aa 7 ?_; refine aq 8 zK rfl (λ K hK => ?_); go_simp
        (go_at_call 106
         (with_reducible refine (HM.o).mono ?_); rintro e w8 ⟨he, hm8⟩; rw [HTK.o] at he; subst he; obtain ⟨V8, rfl⟩ := zW w8; obtain ⟨kv8, ht8⟩ := (HT.o.under (zB wz).drew HBZ.o).moved hm8 HBZ.o; have HT8 := zH ht8; have HE8 := zH ((au.of_below (zB wz).drew HBZ.o).trans (hm8.kept (HT.o.under (zB wz).drew HBZ.o).knot HBZ.o)); have HA8 := zH (by have := (HE8.o.nums HLZ.o).get (j := 0) (x := a) rfl; rwa [Nat.add_zero] at this : V8.cell? ⟨g, o, none⟩ = some (.int .i64 a)); clear hm8 ht8)
        refine hK.out _ _ (⟨HT8.o.cellsAt.1, HA8.o⟩) (λ hHeld => ?_); clear hK K; try simp only [Act.put, aO, aM, aN]
        refine aa 9 ?_; refine wpAnyH_done zK ?_ _; clear KT; go_wp2_with fail
        go_roundg (r.length - (k + 1))
        case measure => have := HK.o; omega
        case rel => exact ⟨k + 1, by omega, by go_num, ⟨kv8, by have := HT8.o; rw [HTS.o]; unfold TSt.tie; rw [HTK.o]; simpa using this⟩, HE.o.trans HE8.o⟩
    . have hke : k = r.length := by omega
      have HTE := zH (show aJ B wz H kv1 (t.ties a r) by have := HT.o; rwa [hke, List.take_length] at this); clear hke; go_wp2_with fail
      go_ret; exact ⟨rfl, ⟨kv1, HTE.o⟩, HE.o⟩
end
section
variable {B : Nat} {w : World} {H : TyH} {kv : Value} {t : TSt}
theorem aJ.grow {W w' : World} {kv0 v : Value} {t0 : TSt} {l : List Int} (h0 : aJ B w H kv0 t0) (h : aJ B W H kv t) (hf : t.funs = t0.funs) (hk : au B w W) (hO : cy w.heap.size W v l) (hg : W.grownBy w' v.ownBlock) : aJ B w' H kv t /\ au B w w' := by
 have hlow : ∀ g, v.ownBlock = some g -> w.heap.size <= g /\ ∃ cur, W.heap[g]? = some (.cells cur 3 (0, 0)) := λ g hg => by
  obtain ⟨h1, _, h2⟩ := et hO hg; exact ⟨h1, h2⟩
 have hkept : au B w w' := by
  refine ⟨hk.below.trans ((Below.refl w.heap.size W).grown hg hk.below.size (λ g hg => (hlow g hg).1) |>.mono ?_), λ g cs T0 n1 n2 n3 h4 => ?_, λ g es c h4 => ?_⟩
  . have := h0.low; have := ab h0.box; omega
  . exact (hg.block g (ab (hk.cells g cs T0 n1 n2 n3 h4)) (λ e => by have := (hlow g e.symm).1; have := ab h4; omega)).trans (hk.cells g cs T0 n1 n2 n3 h4)
  . exact (hg.block g (ab (hk.maps g es c h4)) (λ e => by have := (hlow g e.symm).1; have := ab h4; omega)).trans (hk.maps g es c h4)
 refine ⟨⟨?_, ?_, h.low, ?_, ?_⟩, hkept⟩
 . refine (hg.block _ (ab h.box) λ e => ?_).trans h.box; obtain ⟨_, cur, h1⟩ := hlow _ e.symm; rw [h.box] at h1; injection h1 with h1; injection h1 with _ h1 _; exact absurd h1 zD
 . refine h.knot.kept (M := λ b => v.ownBlock = some b) (ba.of_grown hg λ k e => e) λ b hb e => ?_; obtain ⟨_, cur, h1⟩ := hlow _ e; obtain ⟨cs, h2 | h2⟩ := h.knot.foot hb
   . rw [h2] at h1; injection h1 with h1; injection h1 with _ h1 _; exact absurd h1 zD
   . rw [h2] at h1; injection h1 with h1; injection h1 with _ h1 _; exact absurd h1 zD
 . obtain ⟨es, c, hb, hr⟩ := h.vars; refine ⟨es, c, (hg.block _ (ab hb) λ e => ?_).trans hb, hr⟩; obtain ⟨_, cur, h1⟩ := hlow _ e.symm; rw [hb] at h1; cases h1
 . rw [hf]; exact hkept.funsAt h0.funs
theorem nz (h : aJ B w H kv t) (hB : B <= w.heap.size) (n : Nat) (hn : t.ks.n + n < 4194303) :
  Calls prog 59 #[.pointer (some ⟨H.N, 0, none⟩), .int .i64 (n : Int)] w (re B H (t.adds n) (t.news n) w) := by
 have HB := zH hB; have H0 := zH h; have HN := zH hn; have hn2 : n <= 9223372036854775807 := zO; clear h hB hn; go_enter func59, ntmps59
 go_wp2_with fail
 go_loopg [5, 7] n (λ g lv v wr => ∃ k : Nat, k + g = n /\ v = .int .i64 k /\ cy w.heap.size wr lv (t.news k) /\ (∃ kv', aJ B wr H kv' (t.adds k)) /\ au B w wr)
 case atStart => exact ⟨0, by omega, rfl, cy.nil _ _, ⟨kv, H0.o⟩, au.refl _ _⟩
 case round =>
  obtain ⟨k, hkg, rfl, hown, ⟨kv1, hty⟩, hke⟩ := hrel; obtain ⟨wz, rfl⟩ := zW wr; have HK := zH hkg; have HT := zH hty; have HE := zH hke; have HO := zH hown; have HBZ := zH (Nat.le_trans HB.o hke.below.size); obtain ⟨A5, n5, c5, rfl, hn5⟩ := hown.shape; rw [TSt.news_len] at hn5; subst hn5; have hkl : n5 <= n := zO; clear hkg hty hke hown; by_cases hlt : n5 < n
  . obtain ⟨c3, _, _, c6, f6⟩ := HT.o.cellsAt; have HA := zH (pq HT.o.knot (by have := HN.o; rw [TSt.adds_n]; omega) HBZ.o); have HFL := zH (show (t.news n5).length <= 4194304 by have := HN.o; rw [TSt.news_len]; omega)
    go_wp2_with (first
     | (go_at_call 31; (with_reducible refine HA.o.mono ?_); rintro e w8 ⟨rfl, hm8⟩; obtain ⟨V8, rfl⟩ := zW w8; obtain ⟨kv8, ht8⟩ := HT.o.moved hm8 HBZ.o; have HK8 := zH (hm8.kept HT.o.knot HBZ.o); have hsz8 := HK8.o.below.size; have hal := zA V8 (.cells #[.int .i64 ((t.adds n5).ks.n : Int)] 3); have HT8 := zH (aJ.under ht8 hal (Nat.le_trans HBZ.o HK8.o.below.size)); have HE8 := zH ((HE.o.trans HK8.o).trans (au.of_below hal (Nat.le_trans HBZ.o HK8.o.below.size))); have HO8 := zH ((HK8.o.own HO.o).under hal); clear hm8 ht8 hal)
     | (at_builtin
        refine nh 103 underlying103 rfl _ _ rfl rfl rfl (heap_alloc_new _ _) HO8.o HFL.o ?_ ?_
        . exact HE8.o.below.size
        intro v5 w5 h5; obtain ⟨V5, rfl⟩ := zW w5; have HN5 := zH (show cy w.heap.size V5 v5 (t.news (n5 + 1)) by rw [TSt.news_succ]; exact h5.own); have HT5 := zH (H0.o.grow HT8.o (TSt.adds_vars t (n5 + 1)).2.1 HE8.o HO8.o h5.grown); obtain ⟨B6, m6, c6, rfl, rfl⟩ := HN5.o.shape; clear h5))
    go_roundg (n - (n5 + 1))
    case measure => have := HK.o; omega
    case rel => exact ⟨n5 + 1, by omega, by go_num, HN5.o, ⟨kv8, HT5.o.1⟩, HT5.o.2⟩
  . have hke : n5 = n := by omega
    subst hke; go_wp2_with fail
    go_ret; exact ⟨_, rfl, HO.o.mono (by have := HB.o; omega), ⟨kv1, HT.o⟩, HE.o⟩
theorem GQ {w : World} (a b : Int) : bJ (w.alloc (.cells #[.int .i64 a, .int .i64 b] 3)) (.slice (some ⟨w.heap.size, 0, none⟩) 2 2) [a, b] :=
 ⟨_, 2, rfl, Nat.le_refl _, by unfold maxLen; omega, λ _ => ⟨w.heap.size, 0, _, rfl, heap_alloc_new w _, λ j x hx => by
   rw [Nat.zero_add]
   match j, hx with
   | 0, hx => simpa using hx
   | 1, hx => simpa using hx⟩⟩
theorem bJ.shape {w : World} {v : Value} {l : List Int} (h : bJ w v l) : ∃ A c, v = .slice A l.length c /\ l.length <= 9223372036854775807 := by
 obtain ⟨A, c, rfl, h1, h2, _⟩ := h; exact ⟨A, c, rfl, by unfold maxLen at h2; omega⟩
theorem bJ.some {w : World} {A : Option Addr} {n c : Nat} {l : List Int} (h : bJ w (.slice A n c) l) (h0 : l ≠ []) : ∃ g o, A = some ⟨g, o, none⟩ := by
 obtain ⟨A', c', e, _, _, h3⟩ := h; injection e with e1 _ _; obtain ⟨g', o', cs, e2, _⟩ := h3 h0; exact ⟨g', o', e1.trans e2⟩
theorem jM (h : aJ B w H kv t) (hB : B <= w.heap.size) {v1 v2 : Value} {l m : List Int} (hl : bJ w v1 l) (hm : bJ w v2 m) :
  Calls prog 171 #[.pointer (some ⟨H.N, 0, none⟩), v1, v2] w (yW B H (t.agreeL l m) w) := by
 have HL := zH hl; have HM := zH hm; have HB := zH hB; have H0 := zH h; obtain ⟨A1, c1, rfl, hl1⟩ := hl.shape; obtain ⟨A2, c2, rfl, hm1⟩ := hm.shape; clear h hB hl hm; by_cases hlm : l.length = m.length
 . have HQ := zH (show t.agreeL l m = t.agreeAll l m by unfold TSt.agreeL; rw [if_pos hlm]); have HLM := zH hlm; rw [<- hlm]; rw [<- hlm] at HM; clear hlm hm1; go_enter func171, ntmps171
   go_wp2_with fail
   go_loopg [18] l.length (λ g v wr => ∃ k : Nat, k + g = l.length /\ v = .int .i64 k /\ (∃ kv', aJ B wr H kv' (t.agreeAll (l.take k) (m.take k))) /\ au B w wr)
   case atStart => exact ⟨0, by omega, rfl, ⟨kv, H0.o⟩, au.refl _ _⟩
   case round =>
    obtain ⟨k, hkg, rfl, ⟨kv1, hty⟩, hke⟩ := hrel; obtain ⟨wz, rfl⟩ := zW wr; have HK := zH hkg; have HT := zH hty; have HE := zH hke; have HBZ := zH (Nat.le_trans HB.o hke.below.size); have hkl : k <= l.length := zO; have HLZ := zH (hke.nums HL.o); have HMZ := zH (hke.nums HM.o); clear hkg hty hke; by_cases hlt : k < l.length
    . have hlt2 : k < m.length := by have := HLM.o; omega
      obtain ⟨x, hx⟩ := zG hlt; obtain ⟨y, hy⟩ := zG hlt2; obtain ⟨g1, o1, e1⟩ := HLZ.o.some (λ e => by rw [e] at hx; cases hx); obtain ⟨g2, o2, e2⟩ := HMZ.o.some (λ e => by rw [e] at hy; cases hy); subst e1 e2; have hfx := HLZ.o.get hx; have hfy := HMZ.o.get hy
      have HTS := zH (show t.agreeAll (l.take (k + 1)) (m.take (k + 1)) = (t.agreeAll (l.take k) (m.take k)).ties x [y] by
       obtain ⟨_, rfl⟩ := List.getElem?_eq_some_iff.1 hx; obtain ⟨_, rfl⟩ := List.getElem?_eq_some_iff.1 hy; rw [List.take_succ_eq_append_getElem hlt, List.take_succ_eq_append_getElem hlt2, TSt.agreeAll_snoc _ _ _ (by simp; omega)]; rfl)
      have hal := zA wz (.cells #[.int .i64 x, .int .i64 y] 3); have HAL := zH hal; have HSM := zH (fJ (HT.o.under hal HBZ.o) (Nat.le_trans HBZ.o hal.size) (GQ (w := wz) x y)); clear hx hy hal
      go_wp2_with (go_at_call 61
                   (with_reducible refine HSM.o.mono ?_); rintro e w8 ⟨rfl, ht8, hk8⟩; obtain ⟨V8, rfl⟩ := zW w8; have HT8 := zH ht8; have HE8 := zH ((HE.o.trans (au.of_below HAL.o HBZ.o)).trans hk8); clear ht8 hk8)
      go_roundg (l.length - (k + 1))
      case measure => have := HK.o; omega
      case rel => exact ⟨k + 1, by omega, by go_num, by rw [HTS.o]; exact HT8.o, HE8.o⟩
    . have hke : k = l.length := by omega
      have HTE := zH (show aJ B wz H kv1 (t.agreeAll l m) by have := HT.o; rw [hke, List.take_length] at this; rwa [HLM.o, List.take_length] at this); clear hke; go_wp2_with fail
      exact bodyPost_ret (results_none rfl _ _ _) rfl ⟨rfl, ⟨kv1, by rw [HQ.o]; exact HTE.o⟩, HE.o⟩
 . have HQ := zH (show t.agreeL l m = { t with ref := true } by unfold TSt.agreeL; rw [if_neg hlm]); have hd : ((l.length : Int) != (m.length : Int)) = true := (by simp; omega); obtain ⟨d3, _, _, d6, g6⟩ := H0.o.cellsAt; go_enter func171, ntmps171
   go_wp2_with fail
   exact bodyPost_ret (results_none rfl _ _ _) rfl ⟨rfl, ⟨kv, by rw [HQ.o]; exact H0.o.refuse.1⟩, H0.o.refuse.2⟩
theorem uy (h : aJ B w H kv t) (hB : B <= w.heap.size) (hn : t.ks.n < 4194303) (m : Int) (hm : m < 9223372036854775808) :
  Calls prog 202 #[.pointer (some ⟨H.N, 0, none⟩), .int .i64 m] w (iu B H (t.standIn m) t.ks.n w) := by
 have HB := zH hB; have H0 := zH h; have HA := zH (pq h.knot hn hB); have HKN := zH (fe h hB hn m hm); obtain ⟨d3, _, _, d6, g6⟩ := h.cellsAt; clear h hB; by_cases h0 : m < 0
 . have HQ := zH (show t.standIn m = t.add by unfold TSt.standIn; rw [if_pos h0]); go_enter func202, ntmps202
   go_wp2_with (go_at_call 31
                (with_reducible refine HA.o.mono ?_); rintro e w1 ⟨rfl, hm1⟩; have HM1 := zH hm1; clear hm1)
   go_ret; exact ⟨rfl, by rw [HQ.o]; exact H0.o.moved HM1.o HB.o, HM1.o.kept H0.o.knot HB.o⟩
 . have HQ := zH (show t.standIn m = t.known m by unfold TSt.standIn; rw [if_neg h0]); go_enter func202, ntmps202
   go_wp2_with (go_at_call 142
                (with_reducible refine HKN.o.mono ?_); rintro e w1 ⟨rfl, ht1, hk1⟩; have HT1 := zH ht1; have HK1 := zH hk1; clear ht1 hk1)
   go_ret; exact ⟨rfl, by rw [HQ.o]; exact HT1.o, HK1.o⟩
end
end Go.Proofs.YtiholfmmphcbeaaGreatDoor
