import Derived.Shelf.Slices.Clone
import Derived.Test.YtkfacdofkfabnaaGreatDoorKm04
import Derived.Test.YtkfacdofkfabnaaGreatDoorKm17
set_option maxHeartbeats 8000000
set_option maxRecDepth 100000
namespace Go.Proofs.YtkfacdofkfabnaaGreatDoor
open _root_.Go.Proofs.Tryz
open Go.RowKit
def KB (l : List Tx) (w : World) (e : Ending) (w' : World) : Prop := ∃ v, e = .returned v /\ fw w.heap.size w' v l /\ Below w.heap.size w w'
theorem cx {w : World} {va : Value} {l : List Tx} (ha : aH w va l) (hl : l.length <= 2097152) : Calls prog 22 #[va] w (KB l w) := by
 have q24 : ∀ (w : World) (a : Option Addr) (n c n' c' : Nat), (binOp .eql 33 (.slice a n c) (.slice none n' c')).run prog w = .ok (.bool a.isNone) w := λ w a n c n' c' => Lib.run_eql_slice_nil w _ _ a n c n' c' underlying33; have HA := zH ha; obtain ⟨A, c, rfl, _, _, he⟩ := ha; cases A with
 | none =>
   have hn : l = [] := by
    cases l with
    | nil => rfl
    | cons y r =>
      obtain ⟨L, ⟨a', e, _⟩, _⟩ := he 0 y rfl; cases e
   subst hn; clear he; go_enter func22, ntmps22
   go_wp2_with fail
   go_ret; exact ⟨_, rfl, fw.nil _ _, Below.refl _ _⟩
 | some a =>
   have hal := zH (zA w (.cells #[] 9)); have HO := zH (show fw w.heap.size (w.alloc (.cells #[] 9)) (.slice (some ⟨w.heap.size, 0, none⟩) 0 0) [] from ⟨World.ownsRow_made w #[] 0 (Nat.le_refl _) (Nat.zero_le _) rfl, by simp⟩); have hlen : ([] : List Tx).length + l.length <= 4194304 := (by simp; omega); clear he; go_enter func22, ntmps22
   go_wp2_with (at_builtin; refine kr rfl _ _ rfl rfl rfl HO.o (HA.o.under hal.o) hlen (by simp) ?_; (intro v5 w5 h5; obtain ⟨ho5, hb5, _⟩ := h5; have HO5 := zH ho5; have HB5 := zH (hal.o.trans hb5); clear ho5 hb5))
   go_ret; exact ⟨_, rfl, by simpa using HO5.o, HB5.o⟩
def KC (w0 : World) (l : List Ex) (w : World) (e : Ending) (w' : World) : Prop := ∃ v, e = .returned v /\ ry (a7 w0) w.heap.size 39 5 w' v l /\ Below w.heap.size w w'
theorem tU {w : World} : ∀ L x, a7 w L x -> ∀ u ∈ L, u.oneCell' = true := λ L x h u hu => by
 obtain ⟨o1, s1, n1, A1, m1, k1, A2, m2, k2, rfl⟩ := h.shape
 simp only [List.mem_cons, List.not_mem_nil, or_false] at hu
 rcases hu with rfl | rfl | rfl | rfl | rfl <;> rfl
theorem zz {ops : Array Oper} {rest : List Oper} {o : Oper} {a : Act} {W w0 : World} {Q : Exit -> Act -> World -> Prop} {B : Nat} {v : Value} {xs ys : List Ex} {A : Option Addr} {n c : Nat} (hg : o.guard = none) (s x : Operand)
  (hop : o.op = .call { callee := .builtin .append, args := #[s, x], argTypes := #[37, 37] })
  (hs : a.eval s = v) (hx : a.eval x = .slice A n c) (hO : ry (a7 w0) B 39 5 W v xs) (hS : aw W (a7 w0) (.slice A n c) ys) (hl : xs.length + ys.length <= 4194304) (hB : B <= W.heap.size)
  (h : ∀ v' w', ry (a7 w0) B 39 5 w' v' (xs ++ ys) -> Below B W w' -> wpList prog ops Q rest (a.put o.dst v') w') : wpList prog ops Q (o :: rest) a W :=
 wpList_plain hg λ _ hK' => FN s x hop underlying37 sB rfl zD zD (λ L x h => h.len) tU hs hx hO hS hl hB λ v' w' h1 _ h3 => hK' _ _ (h v' w' h1 h3)
theorem Cy {w0 w : World} {va : Value} {l : List Ex} (ha : aw w (a7 w0) va l) (hl : l.length <= 2097152) : Calls prog 110 #[va] w (KC w0 l w) := by
 have q24 : ∀ (w : World) (a : Option Addr) (n c n' c' : Nat), (binOp .eql 37 (.slice a n c) (.slice none n' c')).run prog w = .ok (.bool a.isNone) w := λ w a n c n' c' => Lib.run_eql_slice_nil w _ _ a n c n' c' underlying37; have HA := zH ha; obtain ⟨A, c, rfl, _, _, he⟩ := ha; cases A with
 | none =>
   have hn : l = [] := by
    cases l with
    | nil => rfl
    | cons y r =>
      obtain ⟨L, ⟨a', e, _⟩, _⟩ := he 0 y rfl; cases e
   subst hn; clear he; go_enter func110, ntmps110
   go_wp2_with fail
   go_ret; exact ⟨_, rfl, ry.nil _, Below.refl _ _⟩
 | some a =>
   have hal := zH (zA w (.cells #[] 39)); have HO := zH (show ry (a7 w0) w.heap.size 39 5 (w.alloc (.cells #[] 39)) (.slice (some ⟨w.heap.size, 0, none⟩) 0 0) [] from ⟨[], World.ownsRow_made w #[] 0 (Nat.le_refl _) (Nat.zero_le _) rfl, rfl, by simp, λ i L x h => by simp at h⟩); have hlen : ([] : List Ex).length + l.length <= 4194304 := (by simp; omega); clear he; go_enter func110, ntmps110
   go_wp2_with (at_builtin; refine zz rfl _ _ rfl rfl rfl HO.o (HA.o.mono hal.o λ _ _ h => h) hlen (by simp) ?_; (intro v5 w5 ho5 hb5; have HO5 := zH ho5; have HB5 := zH (hal.o.trans hb5); clear ho5 hb5))
   go_ret; exact ⟨_, rfl, by simpa using HO5.o, HB5.o⟩
mutual
def dU : Ex -> Prop
 | .mk _ _ _ cs ks => cs.length <= 2097152 /\ ks.length <= 2097152 /\ nj ks
def nj : List Ex -> Prop
 | [] => True
 | k :: l => dU k /\ nj l
end
theorem ny : ∀ {l : List Ex}, nj l -> ∀ (i : Nat) k, l[i]? = some k -> dU k
 | [], _, i, k, h => by simp at h
 | x :: l, h, i, k, hk => by
   rw [nj] at h
   cases i with
   | zero => simp at hk; subst hk; exact h.1
   | succ i => exact ny h.2 i k (by simpa using hk)
theorem bX {w : World} {N : Nat} {T0 : TypeId} {a b c d e : Value} (x y z u v : Value) (h : w.heap[N]? = some (.cells #[a, b, c, d, e] T0 (0, 0))) : (((((w.setCell ⟨N, 0, none⟩ x).setCell ⟨N, 1, none⟩ y).setCell ⟨N, 2, none⟩ z).setCell ⟨N, 3, none⟩ u).setCell ⟨N, 4, none⟩ v).heap[N]? = some (.cells #[x, y, z, u, v] T0 (0, 0)) := by
 have h1 := heap_setCell_same w N 0 _ _ x h; have h2 := heap_setCell_same _ N 1 _ _ y h1; have h3 := heap_setCell_same _ N 2 _ _ z h2; have h4 := heap_setCell_same _ N 3 _ _ u h3; have h5 := heap_setCell_same _ N 4 _ _ v h4; simpa using h5
theorem ar {w : World} {N : Nat} {cs : Array Value} {T0 : TypeId} (h : w.heap[N]? = some (.cells cs T0 (0, 0))) (j : Nat) : w.frozen? ⟨N, j, none⟩ = false := by simp [World.frozen?, h]
theorem bD {B N : Nat} {a w : World} (h : Below B a w) (hN : B <= N) (x y z u v : Value) : Below B a (((((w.setCell ⟨N, 0, none⟩ x).setCell ⟨N, 1, none⟩ y).setCell ⟨N, 2, none⟩ z).setCell ⟨N, 3, none⟩ u).setCell ⟨N, 4, none⟩ v) :=
 ((((h.setCell hN x).setCell hN y).setCell hN z).setCell hN u).setCell hN v
theorem dm {B N : Nat} {a w : World} (h : aL B a w) (hN : N < B ∨ a.heap.size <= N) (x y z u v : Value) : aL B a (((((w.setCell ⟨N, 0, none⟩ x).setCell ⟨N, 1, none⟩ y).setCell ⟨N, 2, none⟩ z).setCell ⟨N, 3, none⟩ u).setCell ⟨N, 4, none⟩ v) :=
 ((((h.set hN x).set hN y).set hN z).set hN u).set hN v
def Iq : List Value := [.int .i64 0, .string ⟨#[]⟩, .int .i64 0, .slice none 0 0, .slice none 0 0]
def np (o : Option Ex) (w : World) (e : Ending) (w' : World) : Prop :=
 Below w.heap.size w w' /\ match o with
  | some z => ∃ M, e = .returned (.tuple #[.agg M.toArray, .bool true]) /\ a7 (cj w.heap.size w') M z
  | none => e = .returned (.tuple #[.agg Iq.toArray, .bool false])
def fV (y : Ex) (w : World) (e : Ending) (w' : World) : Prop := Below w.heap.size w w' /\ ∃ M, e = .returned (.agg M.toArray) /\ a7 (cj w.heap.size w') M y
def oa (Q : Ex -> Prop) (w0 : World) (g : FuncId) (cap : Array Value) (r : Ex -> Option Ex) : Prop :=
 (∀ (args : Array Value) (W : World), (callFunc g args).run prog W = .ok (.enter g args) W) /\ ∀ y L, a7 w0 L y -> dU y -> Q y -> ∀ w, Below w0.heap.size w0 w -> Calls prog g (#[.agg L.toArray] ++ cap) w (np (r y) w)
abbrev Fu (w0 : World) (g : FuncId) (cap : Array Value) (r : Ex -> Option Ex) : Prop := oa (λ _ => True) w0 g cap r
theorem eP : (prog.info? 39).map (·.size) = some 5 := by kernel_rfl
theorem jF {tmps : Array Value} {w : World} {N : Nat} {x0 x1 x2 x3 x4 : Value} (hp : tmps.getD 4 undef = .pointer (some ⟨N, 0, none⟩)) (hg : w.heap[N]? = some (.cells #[x0, x1, x2, x3, x4] 39 (0, 0))) :
  (results f57 tmps).run prog w = .ok (.agg #[x0, x1, x2, x3, x4]) w :=
 results_cell_row results57 tmps w N 39 _ (0, 0) _ hp hg underlying39 rfl eP
theorem uW {Q : Ex -> Prop} {w0 : World} {g : FuncId} {cap : Array Value} {r : Ex -> Option Ex} (H : oa Q w0 g cap r) {L : List Value} {x z : Ex} (h : a7 w0 L x) (hs : dU x) (hq : Q x) (hr : r x = some z) (w : World) (hb : Below w0.heap.size w0 w) :
  Calls prog 57 #[.agg L.toArray, .func (.func g) #[] cap] w (fV z w) := by
 obtain ⟨eg, hf⟩ := H; have HF := zH (hf x L h hs hq); rw [hr] at HF; obtain ⟨o0, s0, n0, A0, m0, k0, B0, j0, l0, rfl⟩ := h.shape; have HB := zH hb; have hb1 := zH ((zA w (.cells #[.int .i64 o0, .string s0, .int .i64 n0, .slice A0 m0 k0, .slice B0 j0 l0] 39)).alloc (by simp) (.cells #[.int .i64 0, .string ⟨#[]⟩, .int .i64 0, .slice none 0 0, .slice none 0 0] 39)); have hsz0 := hb.size; have E0 := zH (aT (o := .cells #[.int .i64 0, .string ⟨#[]⟩, .int .i64 0, .slice none 0 0, .slice none 0 0] 39) (heap_alloc_new w (.cells #[.int .i64 o0, .string s0, .int .i64 n0, .slice A0 m0 k0, .slice B0 j0 l0] 39))); have R0 := zH (aF (w := w.alloc (.cells #[.int .i64 o0, .string s0, .int .i64 n0, .slice A0 m0 k0, .slice B0 j0 l0] 39)) (o := .cells #[.int .i64 0, .string ⟨#[]⟩, .int .i64 0, .slice none 0 0, .slice none 0 0] 39) (n := w.heap.size + 1) (by simp)); clear hf h hs hr hb hq; go_enter func57, ntmps57
 go_wp2_with (go_at_fn g; refine (HF.o _ (HB.o.trans (hb1.o.mono hsz0))).mono ?_; rintro e w1 ⟨hb2, M, rfl, hM⟩; obtain ⟨o1, s1, n1, A1, m1, k1, B1, j1, l1, rfl⟩ := hM.shape; have HM := zH hM; have HB2 := zH hb2; have hz2 := hb2.size; simp at hz2; have R1 := zH (aT (o := .cells #[.int .i64 o1, .string s1, .int .i64 n1, .slice A1 m1 k1, .slice B1 j1 l1] 39) (ab hb2 R0.o)); obtain ⟨r0, r1, r2, r3, r4⟩ := aN R1.o; have f0 := ar R1.o 0; have f1 := ar R1.o 1; have f2 := ar R1.o 2; have f3 := ar R1.o 3; have f4 := ar R1.o 4; clear hb2 hM)
 refine bodyPost_ret (jF rfl (bX _ _ _ _ _ R1.o)) rfl ⟨?_, [.int .i64 o1, .string s1, .int .i64 n1, .slice A1 m1 k1, .slice B1 j1 l1], rfl, ?_⟩
 . have h1 := hb1.o.trans (HB2.o.mono hb1.o.size); exact bD ((h1.alloc h1.size _)) (show w.heap.size <= w.heap.size + 1 by omega) _ _ _ _ _
 . refine HM.o.sub (Sub.trans (aL.sub (dm ((aL.refl _ w1).alloc _) (.inl ?_) _ _ _ _ _)) (bj ?_ _))
   . simp
   . simp; omega
def kE (B : Nat) (w : World) (v : Value) (n : Nat) (C : Nat -> List Value) : Prop :=
 (v = .slice none 0 0 /\ n = 0) ∨ ∃ g cap cur, v = .slice (some ⟨g, 0, none⟩) n cap /\ B <= g /\ w.heap[g]? = some (.cells cur 39 (0, 0)) /\ n <= cap /\ cap <= maxLen /\ cur.size = cap * 5 /\ ∀ (i j : Nat) u, i < n -> j < 5 -> (C i)[j]? = some u -> cur[i * 5 + j]? = some u
theorem kE.of_own {w0 w : World} {B : Nat} {v : Value} {ks : List Ex} (h : ry (a7 w0) B 39 5 w v ks) : ∃ C : Nat -> List Value, kE B w v ks.length C /\ ∀ (i : Nat) k, ks[i]? = some k -> a7 w0 (C i) k := by
 obtain ⟨Ls, hown, hl, hn, hr⟩ := h; refine ⟨λ i => Ls.getD i [], ?_, λ i k hk => ?_⟩
 . rcases hown.2 with ⟨rfl, h0⟩ | ⟨g, cap, cur, rfl, hg, hh, hc, hm, hs, ht⟩
   . exact .inl ⟨rfl, h0⟩
   . refine .inr ⟨g, cap, cur, rfl, hg, hh, hc, hm, hs, λ i j u hi _ hu => ?_⟩; have hi' : i < Ls.length := zO; have hL : Ls[i]? = some Ls[i] := List.getElem?_eq_getElem hi'; have hu : Ls[i][j]? = some u := (by simpa [List.getD_eq_getElem?_getD, hL] using hu); have hlen := hn Ls[i] (List.getElem_mem hi'); have hcell := hown.cells (g := g) rfl _ u (wd Ls hn i j _ hL (by rw [<- hlen]; exact (List.getElem?_eq_some_iff.1 hu).1) u hu); have hadd : (⟨g, 0, none⟩ : Addr).add (i * 5 + j) = ⟨g, i * 5 + j, none⟩ := (by unfold Addr.add; split <;> simp_all)
     rw [hadd, cell_of_row _ _ _ _ _ _ hh] at hcell; exact hcell
 . have hi : i < Ls.length := by rw [hl]; exact (List.getElem?_eq_some_iff.1 hk).1
   have hL : Ls[i]? = some Ls[i] := List.getElem?_eq_getElem hi; have := hr i _ k hL hk; simpa [List.getD_eq_getElem?_getD, hL] using this
theorem kE.keep {B : Nat} {w w' : World} {v : Value} {n : Nat} {C : Nat -> List Value} (h : kE B w v n C) (hk : ∀ b, B <= b -> b < w.heap.size -> w'.heap[b]? = w.heap[b]?) : kE B w' v n C := by
 rcases h with h | ⟨g, cap, cur, rfl, hg, hh, h3⟩
 . exact .inl h
 . exact .inr ⟨g, cap, cur, rfl, hg, (hk g hg (ak hh)).trans hh, h3⟩
theorem kE.put {B : Nat} {w : World} {g cap n k : Nat} {C : Nat -> List Value} (h : kE B w (.slice (some ⟨g, 0, none⟩) n cap) n C) (hk : k < n) (a b c d e : Value) :
  kE B (((((w.setCell ⟨g, k * 5, none⟩ a).setCell ⟨g, k * 5 + 1, none⟩ b).setCell ⟨g, k * 5 + 2, none⟩ c).setCell ⟨g, k * 5 + 3, none⟩ d).setCell ⟨g, k * 5 + 4, none⟩ e) (.slice (some ⟨g, 0, none⟩) n cap) n (λ i => if i = k then [a, b, c, d, e] else C i) := by
 rcases h with ⟨h, _⟩ | ⟨g', cap', cur, hv, hg, hh, hc, hm, hs, ht⟩
 . cases h
 . cases hv; have h1 := heap_setCell_same w g (k * 5) _ _ a hh; have h2 := heap_setCell_same _ g (k * 5 + 1) _ _ b h1; have h3 := heap_setCell_same _ g (k * 5 + 2) _ _ c h2; have h4 := heap_setCell_same _ g (k * 5 + 3) _ _ d h3; have h5 := heap_setCell_same _ g (k * 5 + 4) _ _ e h4; refine .inr ⟨g, cap, _, rfl, hg, h5, hc, hm, by simp [hs], λ i j u hi hj hu => ?_⟩; have hsz : k * 5 + 4 < cur.size := zO; by_cases hik : i = k
   . subst hik; replace hu : [a, b, c, d, e][j]? = some u := (by simpa using hu); match j, hj with
     | 0, _ =>
       simp at hu; subst hu; rw [show i * 5 + 0 = i * 5 by omega, Array.getElem?_setIfInBounds_ne zO, Array.getElem?_setIfInBounds_ne zO, Array.getElem?_setIfInBounds_ne zO, Array.getElem?_setIfInBounds_ne zO, Array.getElem?_setIfInBounds_self]; exact if_pos (by first | omega | (simp only [Array.size_setIfInBounds]; omega))
     | 1, _ =>
       simp at hu; subst hu; rw [Array.getElem?_setIfInBounds_ne zO, Array.getElem?_setIfInBounds_ne zO, Array.getElem?_setIfInBounds_ne zO, Array.getElem?_setIfInBounds_self]; exact if_pos (by first | omega | (simp only [Array.size_setIfInBounds]; omega))
     | 2, _ =>
       simp at hu; subst hu; rw [Array.getElem?_setIfInBounds_ne zO, Array.getElem?_setIfInBounds_ne zO, Array.getElem?_setIfInBounds_self]; exact if_pos (by first | omega | (simp only [Array.size_setIfInBounds]; omega))
     | 3, _ =>
       simp at hu; subst hu; rw [Array.getElem?_setIfInBounds_ne zO, Array.getElem?_setIfInBounds_self]; exact if_pos (by first | omega | (simp only [Array.size_setIfInBounds]; omega))
     | 4, _ =>
       simp at hu; subst hu; rw [Array.getElem?_setIfInBounds_self]; exact if_pos (by first | omega | (simp only [Array.size_setIfInBounds]; omega))
   . replace hu : (C i)[j]? = some u := by simpa [hik] using hu
     rw [Array.getElem?_setIfInBounds_ne zO, Array.getElem?_setIfInBounds_ne zO, Array.getElem?_setIfInBounds_ne zO, Array.getElem?_setIfInBounds_ne zO, Array.getElem?_setIfInBounds_ne zO]; exact ht i j u hi hj hu
theorem kE.cells {B : Nat} {w : World} {A : Option Addr} {cap n k : Nat} {C : Nat -> List Value} {a b c d e : Value} (h : kE B w (.slice A n cap) n C) (hk : k < n) (hC : C k = [a, b, c, d, e]) :
  ∃ g cur, A = some ⟨g, 0, none⟩ /\ B <= g /\ g < w.heap.size /\ w.heap[g]? = some (.cells cur 39 (0, 0)) /\ w.cell? ⟨g, k * 5, none⟩ = some a /\ w.cell? ⟨g, k * 5 + 1, none⟩ = some b /\ w.cell? ⟨g, k * 5 + 2, none⟩ = some c /\ w.cell? ⟨g, k * 5 + 3, none⟩ = some d /\ w.cell? ⟨g, k * 5 + 4, none⟩ = some e := by
 rcases h with ⟨h, h0⟩ | ⟨g', cap', cur, hv, hg, hh, hc, hm, hs, ht⟩
 . omega
 . cases hv; have key : ∀ j u, j < 5 -> (C k)[j]? = some u -> w.cell? ⟨g', k * 5 + j, none⟩ = some u := λ j u hj hu => by
    rw [cell_of_row _ _ _ _ _ _ hh]; exact ht k j u hk hj hu
   rw [hC] at key; exact ⟨g', cur, rfl, hg, ak hh, hh, key 0 _ zO rfl, key 1 _ zO rfl, key 2 _ zO rfl, key 3 _ zO rfl, key 4 _ zO rfl⟩
theorem kE.slice {B B' : Nat} {w : World} {A : Option Addr} {cap n : Nat} {C : Nat -> List Value} {R : List Value -> Ex -> Prop} {ys : List Ex} (h : kE B w (.slice A n cap) n C) (hB : B' <= B) (hn : ys.length = n) (hR : ∀ (i : Nat) y, ys[i]? = some y -> R (C i) y) (h5 : ∀ L y, R L y -> L.length = 5) :
  aw (cj B' w) R (.slice A n cap) ys := by
 rcases h with ⟨h, h0⟩ | ⟨g, cap', cur, hv, hg, hh, hc, hm, hs, ht⟩
 . cases h; have : ys = [] := List.eq_nil_of_length_eq_zero zO; subst this; exact ⟨none, 0, rfl, Nat.le_refl _, by unfold maxLen; omega, λ i x h => by simp at h⟩
 . cases hv; refine ⟨some ⟨g, 0, none⟩, cap, by rw [hn], by omega, hm, λ i y hy => ⟨C i, ⟨_, rfl, λ j u hu => ?_⟩, hR i y hy⟩⟩; have hlen := h5 _ _ (hR i y hy); have hj : j < 5 := (by rw [<- hlen]; exact (List.getElem?_eq_some_iff.1 hu).1); have hi : i < n := (by rw [<- hn]; exact (List.getElem?_eq_some_iff.1 hy).1); rw [hlen, fU, jZ (by rw [bL]; show B' <= g; omega)]; have hadd : (⟨g, 0, none⟩ : Addr).add (i * 5 + j) = ⟨g, i * 5 + j, none⟩ := (by unfold Addr.add; split <;> simp_all)
   rw [hadd, cell_of_row _ _ _ _ _ _ hh]; exact ht i j u hi hj hu
theorem fw.newS {B : Nat} {w : World} {v : Value} {l : List Tx} (h : fw B w v l) : aH (cj B w) v l := by
 obtain ⟨A, c, hv, h1, h2, h3⟩ := h.strs; subst hv; refine ⟨A, c, rfl, h1, h2, λ i x hx => ?_⟩; obtain ⟨L, ⟨a, ha, hc⟩, hL⟩ := h3 i x hx; refine ⟨L, ⟨a, ha, λ j u hu => ?_⟩, hL⟩; have hb : B <= a.block := by
  rcases h.1.2 with ⟨h4, _⟩ | ⟨g, cap, cur, h4, hg, _⟩
  . rw [ha] at h4; cases h4
  . rw [ha] at h4; cases h4; exact hg
 rw [jZ (by rw [bL, bL]; exact hb)]; exact hc j u hu
theorem Bu {w : World} {N : Nat} {T0 : TypeId} {a b c d e : Value} (u : Value) (h : w.heap[N]? = some (.cells #[a, b, c, d, e] T0 (0, 0))) : (w.setCell ⟨N, 3, none⟩ u).heap[N]? = some (.cells #[a, b, c, u, e] T0 (0, 0)) := by simpa using heap_setCell_same w N 3 _ _ u h
theorem kL {w : World} {N : Nat} {T0 : TypeId} {a b c d e : Value} (u : Value) (h : w.heap[N]? = some (.cells #[a, b, c, d, e] T0 (0, 0))) : (w.setCell ⟨N, 4, none⟩ u).heap[N]? = some (.cells #[a, b, c, d, u] T0 (0, 0)) := by simpa using heap_setCell_same w N 4 _ _ u h
theorem gJ {w : World} {G k : Nat} {a : Addr} (h : a.block ≠ G) (x y z u v : Value) : (((((w.setCell ⟨G, k * 5, none⟩ x).setCell ⟨G, k * 5 + 1, none⟩ y).setCell ⟨G, k * 5 + 2, none⟩ z).setCell ⟨G, k * 5 + 3, none⟩ u).setCell ⟨G, k * 5 + 4, none⟩ v).cell? a = w.cell? a := by
 have h1 : ∀ (b : Addr) (w : World) (x : Value), b.block = G -> (w.setCell b x).cell? a = w.cell? a := λ b w x hb => World.cell?_of_block (Below.heap_setCell _ _ _ _ (by rw [hb]; exact h)); rw [h1 _ _ _ rfl, h1 _ _ _ rfl, h1 _ _ _ rfl, h1 _ _ _ rfl, h1 _ _ _ rfl]
theorem sl {w : World} {G k M : Nat} (h : M ≠ G) (x y z u v : Value) : (((((w.setCell ⟨G, k * 5, none⟩ x).setCell ⟨G, k * 5 + 1, none⟩ y).setCell ⟨G, k * 5 + 2, none⟩ z).setCell ⟨G, k * 5 + 3, none⟩ u).setCell ⟨G, k * 5 + 4, none⟩ v).heap[M]? = w.heap[M]? := by
 rw [Below.heap_setCell _ _ _ _ h, Below.heap_setCell _ _ _ _ h, Below.heap_setCell _ _ _ _ h, Below.heap_setCell _ _ _ _ h, Below.heap_setCell _ _ _ _ h]
theorem zq {B G k : Nat} {a w : World} (h : Below B a w) (hN : B <= G) (x y z u v : Value) : Below B a (((((w.setCell ⟨G, k * 5, none⟩ x).setCell ⟨G, k * 5 + 1, none⟩ y).setCell ⟨G, k * 5 + 2, none⟩ z).setCell ⟨G, k * 5 + 3, none⟩ u).setCell ⟨G, k * 5 + 4, none⟩ v) :=
 ((((h.setCell hN x).setCell hN y).setCell hN z).setCell hN u).setCell hN v
theorem nC {B G k : Nat} {a w : World} (h : aL B a w) (hN : G < B ∨ a.heap.size <= G) (x y z u v : Value) : aL B a (((((w.setCell ⟨G, k * 5, none⟩ x).setCell ⟨G, k * 5 + 1, none⟩ y).setCell ⟨G, k * 5 + 2, none⟩ z).setCell ⟨G, k * 5 + 3, none⟩ u).setCell ⟨G, k * 5 + 4, none⟩ v) :=
 ((((h.set hN x).set hN y).set hN z).set hN u).set hN v
theorem a7.of_parts {w : World} {op n : Int} {nm : Tx} {cs : List Tx} {ks : List Ex} {cv : Value} {A : Option Addr} {m c : Nat} (h0 : gY op /\ nm.length <= maxLen /\ gY n) (hcs : aH w cv cs) (hks : aw w (a7 w) (.slice A m c) ks) :
  a7 w [.int .i64 op, .string (str nm), .int .i64 n, cv, .slice A m c] (.mk op nm n cs ks) := gA h0.1 h0.2.2 h0.2.1 hcs hks
theorem lT {B N : Nat} {a w : World} (h : Below B a w) (hN : B <= N) (j : Nat) (x : Value) : Below B a (w.setCell ⟨N, j, none⟩ x) := h.setCell hN x
theorem aD (w : World) (N M j : Nat) (u : Value) (h : M ≠ N) : (w.setCell ⟨N, j, none⟩ u).heap[M]? = w.heap[M]? := Below.heap_setCell _ _ _ _ h
theorem kE.shape {B : Nat} {w : World} {v : Value} {n : Nat} {C : Nat -> List Value} (h : kE B w v n C) : ∃ A c, v = .slice A n c := by
 rcases h with ⟨rfl, rfl⟩ | ⟨g, cap, cur, rfl, _⟩
 . exact ⟨_, _, rfl⟩
 . exact ⟨_, _, rfl⟩
theorem xU {Q : Ex -> Prop} {w0 : World} {g : FuncId} {cap : Array Value} {r : Ex -> Option Ex} (H : oa Q w0 g cap r) {op n : Int} {nm : Tx} {cs : List Tx} {ks : List Ex} {cv : Value} {A : Option Addr} {c : Nat} {C : Nat -> List Value}
  (hop : gY op) (hnm : nm.length <= maxLen) (hn : gY n) (hcs : aH w0 cv cs) (hl : ks.length <= c) (hc : c <= maxLen)
  (hk : ∀ (i : Nat) k, ks[i]? = some k -> cp w0 A i (C i)) (hx : ∀ (i : Nat) k, ks[i]? = some k -> a7 w0 (C i) k)
  (ih : ∀ (i : Nat) k, ks[i]? = some k -> ∀ L, a7 w0 L k -> ∀ w, Below w0.heap.size w0 w -> Calls prog 57 #[.agg L.toArray, .func (.func g) #[] cap] w (fV (i8 r k) w))
  (hs : dU (.mk op nm n cs ks)) (hq : Q (.mk op nm n cs ks)) (hr : r (.mk op nm n cs ks) = none) (w : World) (hb : Below w0.heap.size w0 w) :
  Calls prog 57 #[.agg #[.int .i64 op, .string (str nm), .int .i64 n, cv, .slice A ks.length c], .func (.func g) #[] cap] w (fV (.mk op nm n cs (ks.map (i8 r))) w) := by
 obtain ⟨eg, hf⟩ := H; have HF := zH (hf _ _ (.mk hop hnm hn hcs hl hc hk hx) hs hq); clear hq; rw [hr] at HF; have HX0 := zH (show gY op /\ nm.length <= maxLen /\ gY n from ⟨hop, hnm, hn⟩); rw [dU] at hs; obtain ⟨hs1, hs2, _⟩ := hs; have hsz0 := hb.size; have HB := zH hb; have HCS := zH hcs; obtain ⟨A3, c3, rfl, _⟩ := hcs; have b2 := (zA w (.cells #[.int .i64 op, .string (str nm), .int .i64 n, .slice A3 cs.length c3, .slice A ks.length c] 39)).alloc (by simp) (.cells #[.int .i64 0, .string ⟨#[]⟩, .int .i64 0, .slice none 0 0, .slice none 0 0] 39); have HB2 := zH b2; have E0 := zH (aT (o := .cells #[.int .i64 0, .string ⟨#[]⟩, .int .i64 0, .slice none 0 0, .slice none 0 0] 39) (heap_alloc_new w (.cells #[.int .i64 op, .string (str nm), .int .i64 n, .slice A3 cs.length c3, .slice A ks.length c] 39))); have R0 := zH (aF (w := w.alloc (.cells #[.int .i64 op, .string (str nm), .int .i64 n, .slice A3 cs.length c3, .slice A ks.length c] 39)) (o := .cells #[.int .i64 0, .string ⟨#[]⟩, .int .i64 0, .slice none 0 0, .slice none 0 0] 39) (n := w.heap.size + 1) (by simp)); have HKS := zH (show ∀ W, Below w0.heap.size w0 W -> aw W (a7 w0) (.slice A ks.length c) ks from λ W hW => ⟨A, c, rfl, hl, hc, λ i k hki => ⟨C i, (hk i k hki).under hW, hx i k hki⟩⟩); have hlm : ks.length <= 9223372036854775807 := (by unfold maxLen at hc; omega); clear hf hr hb b2 hk hx hop hn hnm hl hc; go_enter func57, ntmps57
 go_wp2_with (first
  | (go_at_fn g
     refine (HF.o _ (HB.o.trans (HB2.o.mono hsz0))).mono ?_; rintro e w1 ⟨hb1, rfl⟩; unfold Iq; obtain ⟨V1, rfl⟩ := zW w1; have hz1 := hb1.size; simp at hz1; have E1 := zH (aT (o := .cells #[.int .i64 0, .string ⟨#[]⟩, .int .i64 0, .slice none 0 0, .slice none 0 0] 39) (ab hb1 E0.o)); have R1 := zH (aT (o := .cells #[.int .i64 0, .string ⟨#[]⟩, .int .i64 0, .slice none 0 0, .slice none 0 0] 39) (ab hb1 R0.o)); have HB1 := zH (((HB2.o.trans (hb1.mono HB2.o.size))).alloc zO (.cells #[.int .i64 0, .string ⟨#[]⟩, .int .i64 0, .slice none 0 0, .slice none 0 0] 39)); obtain ⟨p0, p1, p2, p3, p4⟩ := aN E1.o; clear hb1)
  | (go_at_call 22; (with_reducible refine (cx (HCS.o.under (HB.o.trans (HB1.o.mono hsz0))) hs1).mono ?_); rintro e w3 ⟨v3, rfl, ho3, hb3⟩; obtain ⟨B3, j3, l3, rfl, rfl⟩ := ho3.shape; obtain ⟨V3, rfl⟩ := zW w3; have hz3 := hb3.size; simp at hz3; have E3 := zH (ab hb3 E1.o); have R3 := zH (ab hb3 R1.o); have E4 := zH (Bu (.slice B3 cs.length l3) E3.o); have HB3 := zH (HB1.o.trans (hb3.mono HB1.o.size)); have HO3 := zH (ho3); have f3 := ar E3.o 3; obtain ⟨q0, q1, q2, q3, q4⟩ := aN E3.o; clear ho3 hb3)
  | (go_at_call 110; (with_reducible refine (Cy (w0 := w0) (HKS.o _ (lT (HB.o.trans (HB3.o.mono hsz0)) (show w0.heap.size <= w.heap.size by omega) 3 (.slice B3 cs.length l3))) hs2).mono ?_); rintro e w5 ⟨v5, rfl, ho5, hb5⟩; obtain ⟨C5, hr5, hx5⟩ := kE.of_own ho5; obtain ⟨B5, l5, rfl⟩ := hr5.shape; obtain ⟨V5, rfl⟩ := zW w5; have hz5 := hb5.size; simp at hz5; have E5 := zH (ab hb5 E4.o); have R5 := zH (ab hb5 ((aD V3 w.heap.size (w.heap.size + 1) 3 _ zO).trans R3.o)); have E6 := zH (kL (.slice B5 ks.length l5) E5.o); have HB5 := zH ((lT HB3.o (Nat.le_refl _) 3 (.slice B3 cs.length l3)).trans (hb5.mono (by have := HB3.o.size; simp; omega))); have HR5 := zH hr5; have HX5 := zH hx5; have hKeep5 := hb5; have g4 := ar E5.o 4; obtain ⟨u0, u1, u2, u3, u4⟩ := aN E5.o; clear ho5 hr5 hx5))
 have HS5 := zH (show aL (w.heap.size + 2) V3 (V5.setCell ⟨w.heap.size, 4, none⟩ (.slice B5 ks.length l5)) from (((aL.refl _ _).set (a := ⟨w.heap.size, 3, none⟩) (.inl (by simp; try omega)) (.slice B3 cs.length l3)).trans (aL.below hKeep5)).set (.inl (by simp; try omega)) _); have HN3 := zH (HO3.o.newS)
 go_loopg [28] ks.length (λ gh i wr => ∃ (k : Nat) (Cf : Nat -> List Value), k + gh = ks.length /\ i = .int .i64 k /\ Below w.heap.size w wr /\ V5.heap.size <= wr.heap.size /\ aL (w.heap.size + 2) V3 wr /\
  wr.heap[w.heap.size]? = some (.cells #[.int .i64 op, .string (str nm), .int .i64 n, .slice B3 cs.length l3, .slice B5 ks.length l5] 39 (0, 0)) /\
  wr.heap[w.heap.size + 1]? = some (.cells #[.int .i64 0, .string ⟨#[]⟩, .int .i64 0, .slice none 0 0, .slice none 0 0] 39 (0, 0)) /\
  kE V3.heap.size wr (.slice B5 ks.length l5) ks.length Cf /\ ∀ (j : Nat) y, ks[j]? = some y -> (j < k -> a7 (cj V5.heap.size wr) (Cf j) (i8 r y)) /\ (k <= j -> a7 w0 (Cf j) y))
 case atStart =>
  refine ⟨0, C5, by omega, rfl, lT HB5.o (Nat.le_refl _) _ _, by simp, HS5.o, E6.o, (aD _ _ _ _ _ zO).trans R5.o, ?_, λ j y hy => ⟨λ h => by omega, λ _ => HX5.o j y hy⟩⟩; have := HR5.o; simp at this; exact this.keep λ b hb _ => aD _ _ _ _ _ (by have := HB1.o.size; omega)
 case round =>
  obtain ⟨U, rfl⟩ := zW wr; obtain ⟨k, Cf, hkg, rfl, hbw, hz, hsm, hN, hR, hrow, hel⟩ := hrel; have HG := zH hkg; have HBW := zH hbw; have HSM := zH hsm; have HNN := zH hN; have HRR := zH hR; have HROW := zH hrow; have HEL := zH hel; have hkl : k <= ks.length := zO; have hV1 := hbw.size; by_cases hlt : k < ks.length
  . obtain ⟨y, hy⟩ := zG hlt; have hxk := (hel k y hy).2 (Nat.le_refl _); obtain ⟨o1, s1, n1, A1, m1, k1, A2, m2, k2, hL⟩ := hxk.shape; obtain ⟨gb, cur, rfl, hg1, hg2, hg3, d0, d1, d2, d3, d4⟩ := hrow.cells hlt hL; have IH := zH (ih k y hy _ hxk); rw [hL] at IH; have HY := zH hy; obtain ⟨n0, n1', n2', n3', n4⟩ := aN hN; have K0 := zH (heap_alloc_new U (.cells #[.int .i64 o1, .string s1, .int .i64 n1, .slice A1 m1 k1, .slice A2 m2 k2] 39)); clear hkg hbw hsm hN hR hrow hel hxk hy hL; go_wp2_with fail
    refine wp_region_held_drew (S := (λ W => W.cell? ⟨w.heap.size, 4, none⟩ = some (.slice (some ⟨gb, 0, none⟩) ks.length l5) /\ W.cell? ⟨U.heap.size, 0, none⟩ = some (.int .i64 o1) /\ W.cell? ⟨U.heap.size, 1, none⟩ = some (.string s1) /\ W.cell? ⟨U.heap.size, 2, none⟩ = some (.int .i64 n1) /\ W.cell? ⟨U.heap.size, 3, none⟩ = some (.slice A1 m1 k1) /\ W.cell? ⟨U.heap.size, 4, none⟩ = some (.slice A2 m2 k2))) zK ?_ (λ hHeld => ?_)
    . (try dsimp only); go_keep
    refine aa 0 ?_; refine aa 1 ?_; refine aa 2 ?_; refine aa 3 ?_; refine aa 4 ?_; refine ay 5 zK rfl (λ K hK => ?_); go_simp
    (go_at_call 57
     (with_reducible refine (IH.o _ (HB.o.trans ((HBW.o.alloc HBW.o.size _).drew.mono hsz0))).mono ?_); rintro e w7 ⟨hb7, M, rfl, hM7⟩; obtain ⟨V7, rfl⟩ := zW w7; have hz7 := hb7.size; simp at hz7; obtain ⟨o7, s7, n7, A7, m7, k7, B7, j7, l7, rfl⟩ := hM7.shape; have HM7 := zH hM7; have HB7 := zH hb7; have N7 := zH (ab hb7 (aT (o := .cells #[.int .i64 o1, .string s1, .int .i64 n1, .slice A1 m1 k1, .slice A2 m2 k2] 39) HNN.o)); have K7 := zH (ab hb7 K0.o); have G7 := zH (ab hb7 (aT (o := .cells #[.int .i64 o1, .string s1, .int .i64 n1, .slice A1 m1 k1, .slice A2 m2 k2] 39) hg3)); obtain ⟨n0, n1', n2', n3', n4⟩ := aN N7.o; obtain ⟨t0, t1, t2, t3, t4⟩ := aN K7.o; have y0 := ar G7.o (k * 5); have y1 := ar G7.o (k * 5 + 1); have y2 := ar G7.o (k * 5 + 2); have y3 := ar G7.o (k * 5 + 3); have y4 := ar G7.o (k * 5 + 4); have c0 := (World.cell?_of_block (a := ⟨gb, k * 5, none⟩) (G7.o.trans hg3.symm)).trans d0; have c1 := (World.cell?_of_block (a := ⟨gb, k * 5 + 1, none⟩) (G7.o.trans hg3.symm)).trans d1; have c2 := (World.cell?_of_block (a := ⟨gb, k * 5 + 2, none⟩) (G7.o.trans hg3.symm)).trans d2; have c3' := (World.cell?_of_block (a := ⟨gb, k * 5 + 3, none⟩) (G7.o.trans hg3.symm)).trans d3; have c4 := (World.cell?_of_block (a := ⟨gb, k * 5 + 4, none⟩) (G7.o.trans hg3.symm)).trans d4; clear hb7 hM7)
    refine hK.out _ _ ?_ (λ hHeld => ?_)
    . (try dsimp only); go_keep
    clear hK K; try simp only [Act.put, aK, aI, aJ]
    refine aa 6 ?_; have hq1 := HB1.o.size; have hgN : w.heap.size ≠ gb := (by simp at hq1; omega); have hgR : w.heap.size + 1 ≠ gb := (by simp at hq1; omega); have hgK : U.heap.size ≠ gb := zO; refine ay 7 zK rfl (λ K hK => ?_); go_simp
    refine hK.out _ _ ⟨(gJ hgN _ _ _ _ _).trans hHeld.1, (gJ hgK _ _ _ _ _).trans hHeld.2.1, (gJ hgK _ _ _ _ _).trans hHeld.2.2.1, (gJ hgK _ _ _ _ _).trans hHeld.2.2.2.1, (gJ hgK _ _ _ _ _).trans hHeld.2.2.2.2.1, (gJ hgK _ _ _ _ _).trans hHeld.2.2.2.2.2⟩ (λ hHeld => ?_); clear hK K; try simp only [Act.put, aK, aI, aJ]
    refine wpAnyH_done zK ?_ _; go_wp2_with fail
    go_roundg (ks.length - (k + 1))
    case measure => have := HG.o; omega
    case rel =>
     have hb7' : Below U.heap.size U V7 := ((Below.refl _ U).alloc (Nat.le_refl _) _).drew.trans (HB7.o.mono (by simp [World.drew])); have hgV : gb < V5.heap.size := by
      rcases HR5.o with ⟨h, _⟩ | ⟨g', _, _, hv, _, hh, _⟩
      . cases h
      . cases hv; exact ak hh
     have hs7 := hb7'.size
     refine ⟨k + 1, λ i => if i = k then [.int .i64 o7, .string s7, .int .i64 n7, .slice A7 m7 k7, .slice B7 j7 l7] else Cf i, by omega, by go_num, zq (HBW.o.trans (hb7'.mono hV1)) zO _ _ _ _ _, by simp; omega, nC (HSM.o.trans (aL.below hb7')) (.inr hg1) _ _ _ _ _,
      (sl hgN _ _ _ _ _).trans N7.o, (sl hgR _ _ _ _ _).trans (ab hb7' HRR.o), (HROW.o.keep λ b _ hb => hb7'.block b hb).put hlt _ _ _ _ _, λ j y' hy' => ⟨λ hj => ?_, λ hj => ?_⟩⟩
     . by_cases hjk : j = k
       . subst hjk; rw [HY.o] at hy'; cases hy'; simp only [if_pos]; exact HM7.o.sub (Sub.trans (aL.sub (nC (aL.refl _ V7) (.inl (by simp [World.drew]; omega)) _ _ _ _ _)) (bj (by simp [World.drew]; omega) _))
       . simp only [if_neg hjk]; exact ((HEL.o j y' hy').1 zO).sub (aL.sub (nC (aL.below hb7') (.inl hgV) _ _ _ _ _))
     . simp only [if_neg (show ¬ j = k by omega)]; exact (HEL.o j y' hy').2 zO
  . have hke : k = ks.length := by omega
    have HKE := zH hke; clear hke hkg hbw hsm hN hR hrow hel; obtain ⟨n0, n1, n2, n3, n4⟩ := aN HNN.o; obtain ⟨r0, r1, r2, r3, r4⟩ := aN HRR.o; have f0 := ar HRR.o 0; have f1 := ar HRR.o 1; have f2 := ar HRR.o 2; have f3 := ar HRR.o 3; have f4 := ar HRR.o 4; go_wp2_with fail
    refine bodyPost_ret (jF rfl (bX _ _ _ _ _ HRR.o)) rfl ⟨bD HBW.o zO _ _ _ _ _, [.int .i64 op, .string (str nm), .int .i64 n, .slice B3 cs.length l3, .slice B5 ks.length l5], rfl, ?_⟩; have hs1' : aL (w.heap.size + 2) U _ := dm (N := w.heap.size + 1) (aL.refl (w.heap.size + 2) U) (.inl zO) (.int .i64 op) (.string (str nm)) (.int .i64 n) (.slice B3 cs.length l3) (.slice B5 ks.length l5); have hq1 := HB1.o.size; have hrow' : kE V3.heap.size _ (.slice B5 ks.length l5) ks.length Cf := HROW.o.keep λ b hb1 hb2 => hs1'.2 b (by simp at hq1; omega) hb2; refine a7.of_parts HX0.o ((HN3.o.sub (Sub.trans (bj (by simp at hq1 ⊢; omega) _) (aL.sub (HSM.o.trans hs1')))).sub (bj zO _)) ((hrow'.slice (B' := w.heap.size) (R := a7 (cj w.heap.size _)) (by simp at hq1; omega) (by simp) (λ i y hy => ?_) (λ L y h => h.len))); rw [List.getElem?_map] at hy; cases hk0 : ks[i]? with
    | none => rw [hk0] at hy; cases hy
    | some y0 =>
      rw [hk0] at hy; cases hy; have hi := (List.getElem?_eq_some_iff.1 hk0).1; exact ((HEL.o i y0 hk0).1 zO).sub (Sub.trans (bj zO _) (Sub.trans (aL.sub hs1') (bj zO _)))
theorem mm {Q : Ex -> Prop} {w0 : World} {g : FuncId} {cap : Array Value} {r : Ex -> Option Ex} (hQ : ∀ op nm n cs ks, r (.mk op nm n cs ks) = none -> Q (.mk op nm n cs ks) -> ∀ k ∈ ks, Q k) (H : oa Q w0 g cap r) : ∀ (m : Nat) (x : Ex) (L : List Value), SizeOf.sizeOf x < m -> a7 w0 L x -> dU x -> Q x -> ∀ w, Below w0.heap.size w0 w -> Calls prog 57 #[.agg L.toArray, .func (.func g) #[] cap] w (fV (i8 r x) w)
 | 0, _, _, h, _ => by omega
 | m + 1, x, L, hm, h => by
   intro hs hq w hb
   cases hr : r x with
   | some z =>
     rw [BG hr]
     exact uW H h hs hq hr w hb
   | none =>
     cases h with
     | @mk op nm n cs ks cv A c C hop hnm hn hcs hl hc hk hx =>
       rw [BH hr]
       refine xU H hop hnm hn hcs hl hc hk hx (λ i k hi L hL w' hb' => ?_) hs hq hr w hb
       have hlt : SizeOf.sizeOf k < SizeOf.sizeOf (Ex.mk op nm n cs ks) := by
        have := List.sizeOf_lt_of_mem (List.mem_of_getElem? hi); simp; omega
       rw [dU] at hs; exact mm hQ H m k L zO hL (ny hs.2.2 i k hi) (hQ _ _ _ _ _ hr hq k (List.mem_of_getElem? hi)) w' hb'
theorem mo {Q : Ex -> Prop} {w0 : World} {g : FuncId} {cap : Array Value} {r : Ex -> Option Ex} (hQ : ∀ op nm n cs ks, r (.mk op nm n cs ks) = none -> Q (.mk op nm n cs ks) -> ∀ k ∈ ks, Q k) (H : oa Q w0 g cap r) {L : List Value} {x : Ex} (h : a7 w0 L x) (hs : dU x) (hq : Q x) (w : World) (hb : Below w0.heap.size w0 w) : Calls prog 57 #[.agg L.toArray, .func (.func g) #[] cap] w (fV (i8 r x) w) :=
 mm hQ H (SizeOf.sizeOf x + 1) x L (Nat.lt_succ_self _) h hs hq w hb
theorem om {w0 : World} {g : FuncId} {cap : Array Value} {r : Ex -> Option Ex} (H : Fu w0 g cap r) {L : List Value} {x : Ex} (h : a7 w0 L x) (hs : dU x) (w : World) (hb : Below w0.heap.size w0 w) : Calls prog 57 #[.agg L.toArray, .func (.func g) #[] cap] w (fV (i8 r x) w) :=
 mo (λ _ _ _ _ _ _ _ _ _ => trivial) H h hs trivial w hb
end Go.Proofs.YtkfacdofkfabnaaGreatDoor
