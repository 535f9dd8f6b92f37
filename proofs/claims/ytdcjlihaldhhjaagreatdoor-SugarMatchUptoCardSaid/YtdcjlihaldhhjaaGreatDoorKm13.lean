import Derived.Test.YtdcjlihaldhhjaaGreatDoorKm10
set_option maxHeartbeats 2000000
namespace Go.Proofs.YtdcjlihaldhhjaaGreatDoor
open _root_.Go.Proofs.Tryz
open Go.RowKit
theorem a8.below {B b : Nat} {w w' : World} (h : a8 B b w w') : Below B w w' := h.1
theorem rN {B b : Nat} {w0 : World} {op n : Int} {nm : Tx} {cs : List Tx} {ks : List Ex} {cv : Value} {A : Option Addr} {c : Nat} {C : Nat -> List Value} (h : dd B b w0 nm cs ks cv A c C) {w : World} {ts : List Tx} (ht : bl B b ts w) (hb : Below w0.heap.size w0 w) (hn : aM (ts ++ fi (ks.map aA) 0)) :
  Calls prog 99 #[.pointer (some ⟨b, 0, none⟩), .agg #[.int .i64 op, .string (str nm), .int .i64 n, cv, .slice A ks.length c], .int .i64 0] w (a7 B b (ts ++ fi (ks.map aA) 0) w) := rM h 0 ht hb hn
theorem xq {B b : Nat} {w0 : World} {op n : Int} {nm : Tx} {cs : List Tx} {ks : List Ex} {cv : Value} {A : Option Addr} {c : Nat} {C : Nat -> List Value} (h : dd B b w0 nm cs ks cv A c C) {w : World} {ts : List Tx} (ht : bl B b ts w) (hb : Below w0.heap.size w0 w) (hn : aM (ts ++ fi (ks.map aA) 1)) :
  Calls prog 99 #[.pointer (some ⟨b, 0, none⟩), .agg #[.int .i64 op, .string (str nm), .int .i64 n, cv, .slice A ks.length c], .int .i64 1] w (a7 B b (ts ++ fi (ks.map aA) 1) w) := rM h 1 ht hb hn
theorem Dr {B b : Nat} {w0 : World} {op n : Int} {nm : Tx} {cs : List Tx} {ks : List Ex} {cv : Value} {A : Option Addr} {c : Nat} {C : Nat -> List Value} (h : dd B b w0 nm cs ks cv A c C) {w : World} {ts : List Tx} (ht : bl B b ts w) (hb : Below w0.heap.size w0 w) (hn : aM (ts ++ fi (ks.map aA) 2)) :
  Calls prog 99 #[.pointer (some ⟨b, 0, none⟩), .agg #[.int .i64 op, .string (str nm), .int .i64 n, cv, .slice A ks.length c], .int .i64 2] w (a7 B b (ts ++ fi (ks.map aA) 2) w) := rM h 2 ht hb hn
theorem jA {B b : Nat} {w0 : World} {op n : Int} {nm o : Tx} {cs : List Tx} {ks : List Ex} {cv : Value} {A : Option Addr} {c : Nat} {C : Nat -> List Value} (h : dd B b w0 nm cs ks cv A c C) (ho : (str o).size <= maxLen) {w : World} {ts : List Tx} (ht : bl B b ts w) (hb : Below w0.heap.size w0 w) (hn : aM (ts ++ dS o (ks.map aA))) :
  Calls prog 47 #[.pointer (some ⟨b, 0, none⟩), .string (str o), .agg #[.int .i64 op, .string (str nm), .int .i64 n, cv, .slice A ks.length c]] w (a7 B b (ts ++ dS o (ks.map aA)) w) := by
 have HT := zH ht; have HB := zH hb; have HH := zH h; have HO := zH ho; have hsz := hb.size; have hblt := ht.lt; obtain ⟨A2, n2, k2, rfl⟩ : ∃ A2 n2 k2, cv = .slice A2 n2 k2 := by obtain ⟨A2, k2, e, _⟩ := h.hcs; exact ⟨_, _, _, e⟩
 have HN := zH (show aM (ts ++ [(⟨#[40]⟩ : ByteArray).data.toList] ++ fi (ks.map aA) 0 ++ [(str o : ByteArray).data.toList] ++ fi (ks.map aA) 1 ++ [(⟨#[41]⟩ : ByteArray).data.toList]) by simpa [dS, aV] using hn); clear h hn ht hb ho; go_enter func47, ntmps47
 go_wp2_with (first
  | (go_at_call 43; with_reducible refine (dy (⟨#[40]⟩) (HT.o.alloc _) HN.o.left.left.left.left (bu zD) (by simp)).mono ?_
     rintro e w1 ⟨rfl, ht1, hk1⟩; have hbx1 := cy hk1 (heap_alloc_new w _) zO zD; obtain ⟨d0, d1, d2, d3, d4⟩ := aN hbx1; have HX1 := zH hbx1; have HT1 := zH ht1; have HK1 := zH (((a8.refl B b w).alloc HT.o.2 _).trans hk1); clear ht1 hk1 hbx1)
  | (go_at_call 99; with_reducible refine (rN HH.o (HT1.o) (HB.o.trans (HK1.o.below.mono HH.o.size)) HN.o.left.left.left).mono ?_
     rintro e w2 ⟨rfl, ht2, hk2⟩; have hbx2 := cy hk2 HX1.o zO zD; obtain ⟨d0, d1, d2, d3, d4⟩ := aN hbx2; have HX2 := zH hbx2; have HT2 := zH ht2; have HK2 := zH (HK1.o.trans hk2); clear ht2 hk2 hbx2)
  | (go_at_call 43; with_reducible refine (dy (str o) (HT2.o) HN.o.left.left HO.o rfl).mono ?_
     rintro e w3 ⟨rfl, ht3, hk3⟩; have hbx3 := cy hk3 HX2.o zO zD; obtain ⟨d0, d1, d2, d3, d4⟩ := aN hbx3; have HX3 := zH hbx3; have HT3 := zH ht3; have HK3 := zH (HK2.o.trans hk3); clear ht3 hk3 hbx3)
  | (go_at_call 99; with_reducible refine (xq HH.o (HT3.o) (HB.o.trans (HK3.o.below.mono HH.o.size)) HN.o.left).mono ?_
     rintro e w4 ⟨rfl, ht4, hk4⟩; have hbx4 := cy hk4 HX3.o zO zD; obtain ⟨d0, d1, d2, d3, d4⟩ := aN hbx4; have HX4 := zH hbx4; have HT4 := zH ht4; have HK4 := zH (HK3.o.trans hk4); clear ht4 hk4 hbx4)
  | (go_at_call 43; with_reducible refine (dy (⟨#[41]⟩) (HT4.o) HN.o (bu zD) rfl).mono ?_
     rintro e w5 ⟨rfl, ht5, hk5⟩; skip))
 go_end0
 exact ⟨rfl, by simpa [dS, aV] using ht5, HK4.o.trans hk5⟩
theorem vZ {B b : Nat} {w0 : World} {op n : Int} {nm : Tx} {cs : List Tx} {ks : List Ex} {cv : Value} {A : Option Addr} {c : Nat} {C : Nat -> List Value} (h : dd B b w0 nm cs ks cv A c C) {w : World} {ts : List Tx} (ht : bl B b ts w) (hb : Below w0.heap.size w0 w) (hn : aM (ts ++ ir (ks.map aA))) :
  Calls prog 48 #[.pointer (some ⟨b, 0, none⟩), .agg #[.int .i64 op, .string (str nm), .int .i64 n, cv, .slice A ks.length c]] w (a7 B b (ts ++ ir (ks.map aA)) w) := by
 have HT := zH ht; have HB := zH hb; have HH := zH h; have hsz := hb.size; have hblt := ht.lt; obtain ⟨A2, n2, k2, rfl⟩ : ∃ A2 n2 k2, cv = .slice A2 n2 k2 := by obtain ⟨A2, k2, e, _⟩ := h.hcs; exact ⟨_, _, _, e⟩
 have HN := zH (show aM (ts ++ [(⟨#[40]⟩ : ByteArray).data.toList, (⟨#[105, 102]⟩ : ByteArray).data.toList] ++ fi (ks.map aA) 0 ++ [(⟨#[116, 104, 101, 110]⟩ : ByteArray).data.toList] ++ fi (ks.map aA) 1 ++ [(⟨#[101, 108, 115, 101]⟩ : ByteArray).data.toList] ++ fi (ks.map aA) 2 ++ [(⟨#[41]⟩ : ByteArray).data.toList]) by simpa [ir, aV] using hn); clear h hn ht hb; go_enter func48, ntmps48
 go_wp2_with (first
  | (go_at_call 43; with_reducible refine (wP (⟨#[40]⟩) (⟨#[105, 102]⟩) (HT.o.alloc _) HN.o.left.left.left.left.left.left (bu zD) (bu zD) (by simp)).mono ?_
     rintro e w1 ⟨rfl, ht1, hk1⟩; have hbx1 := cy hk1 (heap_alloc_new w _) zO zD; obtain ⟨d0, d1, d2, d3, d4⟩ := aN hbx1; have HX1 := zH hbx1; have HT1 := zH ht1; have HK1 := zH (((a8.refl B b w).alloc HT.o.2 _).trans hk1); clear ht1 hk1 hbx1)
  | (go_at_call 99; with_reducible refine (rN HH.o (HT1.o) (HB.o.trans (HK1.o.below.mono HH.o.size)) HN.o.left.left.left.left.left).mono ?_
     rintro e w2 ⟨rfl, ht2, hk2⟩; have hbx2 := cy hk2 HX1.o zO zD; obtain ⟨d0, d1, d2, d3, d4⟩ := aN hbx2; have HX2 := zH hbx2; have HT2 := zH ht2; have HK2 := zH (HK1.o.trans hk2); clear ht2 hk2 hbx2)
  | (go_at_call 43; with_reducible refine (dy (⟨#[116, 104, 101, 110]⟩) (HT2.o) HN.o.left.left.left.left (bu zD) rfl).mono ?_
     rintro e w3 ⟨rfl, ht3, hk3⟩; have hbx3 := cy hk3 HX2.o zO zD; obtain ⟨d0, d1, d2, d3, d4⟩ := aN hbx3; have HX3 := zH hbx3; have HT3 := zH ht3; have HK3 := zH (HK2.o.trans hk3); clear ht3 hk3 hbx3)
  | (go_at_call 99; with_reducible refine (xq HH.o (HT3.o) (HB.o.trans (HK3.o.below.mono HH.o.size)) HN.o.left.left.left).mono ?_
     rintro e w4 ⟨rfl, ht4, hk4⟩; have hbx4 := cy hk4 HX3.o zO zD; obtain ⟨d0, d1, d2, d3, d4⟩ := aN hbx4; have HX4 := zH hbx4; have HT4 := zH ht4; have HK4 := zH (HK3.o.trans hk4); clear ht4 hk4 hbx4)
  | (go_at_call 43; with_reducible refine (dy (⟨#[101, 108, 115, 101]⟩) (HT4.o) HN.o.left.left (bu zD) rfl).mono ?_
     rintro e w5 ⟨rfl, ht5, hk5⟩; have hbx5 := cy hk5 HX4.o zO zD; obtain ⟨d0, d1, d2, d3, d4⟩ := aN hbx5; have HX5 := zH hbx5; have HT5 := zH ht5; have HK5 := zH (HK4.o.trans hk5); clear ht5 hk5 hbx5)
  | (go_at_call 99; with_reducible refine (Dr HH.o (HT5.o) (HB.o.trans (HK5.o.below.mono HH.o.size)) HN.o.left).mono ?_
     rintro e w6 ⟨rfl, ht6, hk6⟩; have hbx6 := cy hk6 HX5.o zO zD; obtain ⟨d0, d1, d2, d3, d4⟩ := aN hbx6; have HX6 := zH hbx6; have HT6 := zH ht6; have HK6 := zH (HK5.o.trans hk6); clear ht6 hk6 hbx6)
  | (go_at_call 43; with_reducible refine (dy (⟨#[41]⟩) (HT6.o) HN.o (bu zD) rfl).mono ?_
     rintro e w7 ⟨rfl, ht7, hk7⟩; skip))
 go_end0
 exact ⟨rfl, by simpa [ir, aV] using ht7, HK6.o.trans hk7⟩
theorem py.keep {B b n : Nat} {w w' : World} (h : py B b w n) (hk : a8 B b w w') : py B b w' n := by
 rcases h with h | ⟨hb, cs, T, fz, hh, hT⟩
 . exact .inl h
 . exact .inr ⟨hb, cs, T, fz, (py.heap (.inr ⟨hb, cs, T, fz, hh, hT⟩) hk).trans hh, hT⟩
theorem dp.keep {B b : Nat} {w w' : World} {v : Value} {l : List Tx} (h : dp B b w v l) (hk : a8 B b w w') : dp B b w' v l := by
 obtain ⟨⟨A, c, rfl, h1, h2, h3⟩, hK⟩ := h; refine ⟨⟨A, c, rfl, h1, h2, λ i x hx => ?_⟩, λ A' n' c' e hne => (hK A' n' c' e hne).keep hk⟩; obtain ⟨L, ⟨a, rfl, hc⟩, hR⟩ := h3 i x hx; refine ⟨L, ⟨a, rfl, λ j u hu => ?_⟩, hR⟩; have hh := (hK a _ _ rfl (λ e => by rw [e] at hx; cases hx)).heap hk; have := hc j u hu; rw [World.cell?, bI, bI, hh]; rw [World.cell?, bI, bI] at this; exact this
theorem sH {B b : Nat} {ts : List Tx} {v : Value} {l : List Tx} (w : World) (h : bl B b ts w) (hl : dp B b w v l) (hlen : aM (ts ++ eu l)) :
  Calls prog 101 #[.pointer (some ⟨b, 0, none⟩), v] w (a7 B b (ts ++ eu l) w) := by
 have hT := zH hl; obtain ⟨⟨A, c, rfl, hc, hm, _⟩, _⟩ := hl; have hlm : l.length <= 9223372036854775807 := (by unfold maxLen at hm; omega); have HT := zH h; by_cases h0 : l = []
 . subst h0; clear hc hm h hlen; go_enter func101, ntmps101
   go_wp2_with fail
   first
    | (go_end0; exact ⟨rfl, by simpa [eu] using HT.o, a8.refl _ _ _⟩)
    | (go_ret; exact ⟨rfl, by simpa [eu] using HT.o, a8.refl _ _ _⟩)
 . have hne : l.length ≠ 0 := by simpa using h0
   have es : eu l = [(⟨#[91]⟩ : ByteArray).data.toList] ++ di [44] l ++ [(⟨#[93]⟩ : ByteArray).data.toList] := (by simp [eu, h0]); have HE := zH es; have HN := zH (show aM (ts ++ [(⟨#[91]⟩ : ByteArray).data.toList] ++ di [44] l ++ [(⟨#[93]⟩ : ByteArray).data.toList]) by rw [es] at hlen; simpa using hlen); clear hc hm h hlen es h0; go_enter func101, ntmps101
   go_wp2_with (first
    | (go_at_call 43; with_reducible refine (dy ⟨#[91]⟩ HT.o HN.o.left.left (bu zD) rfl).mono ?_
       rintro e w1 ⟨rfl, ht1, hk1⟩; have HT1 := zH ht1; have HK1 := zH hk1; clear ht1 hk1)
    | (go_at_call 100; refine (xg (s := [44]) _ HT1.o (hT.o.keep HK1.o) HN.o.left (bu (x := str [44]) zD)).mono ?_; rintro e w2 ⟨rfl, ht2, hk2⟩)
    | (go_at_call 43; with_reducible refine (dy ⟨#[93]⟩ ht2 HN.o (bu zD) rfl).mono ?_
       rintro e w3 ⟨rfl, ht3, hk3⟩))
   go_end0
   exact ⟨rfl, by rw [HE.o]; simpa using ht3, HK1.o.trans (hk2.trans hk3)⟩
theorem FE {B b N : Nat} {ts : List Tx} {W : World} (x y z u : ByteArray) (h : bl B b ts W) (hlen : aM (ts ++ [x.data.toList, y.data.toList, z.data.toList, u.data.toList])) (hx : x.size <= maxLen) (hy : y.size <= maxLen) (hz : z.size <= maxLen) (hu : u.size <= maxLen) (hN : W.heap.size = N) :
  Calls prog 43 #[.pointer (some ⟨b, 0, none⟩), .slice (some ⟨N, 0, none⟩) 4 4] (W.alloc (.cells #[.string x, .string y, .string z, .string u] 9)) (a7 B b (ts ++ [x.data.toList, y.data.toList, z.data.toList, u.data.toList]) W) := by
 subst hN; exact kJ [x, y, z, u] h hlen (by simp [hx, hy, hz, hu]) (by simp only [List.length_cons, List.length_nil]; decide)
theorem dp.came {B b : Nat} {w0 w : World} {v : Value} {l : List Tx} (h : aG w0 v l) (hB : w0.heap.size <= B) (hb : Below w0.heap.size w0 w) : dp B b w v l := by
 refine ⟨h.under hb, λ A n c e hne => ?_⟩; obtain ⟨A', c', rfl, _, _, h3⟩ := h; injection e with e _ _; subst e; obtain ⟨x, r, rfl⟩ := List.exists_cons_of_ne_nil hne; obtain ⟨L, ⟨a, e, hc⟩, hL, _⟩ := h3 0 x rfl; cases e; subst hL; have := hc.lt (by simp); rw [bI] at this; exact .inl zO
theorem zC {B b : Nat} {w0 : World} {op n : Int} {nm : Tx} {cs : List Tx} {ks : List Ex} {cv : Value} {A : Option Addr} {c : Nat} {C : Nat -> List Value} (h : dd B b w0 nm cs ks cv A c C) {w : World} {ts : List Tx} (ht : bl B b ts w) (hb : Below w0.heap.size w0 w) (hn : aM (ts ++ nL nm cs (ks.map aA))) :
  Calls prog 49 #[.pointer (some ⟨b, 0, none⟩), .agg #[.int .i64 op, .string (str nm), .int .i64 n, cv, .slice A ks.length c]] w (a7 B b (ts ++ nL nm cs (ks.map aA)) w) := by
 have HT := zH ht; have HB := zH hb; have HH := zH h; have hsz := hb.size; have hblt := ht.lt; have HC := zH h.hcs; obtain ⟨A2, n2, k2, rfl⟩ : ∃ A2 n2 k2, cv = .slice A2 n2 k2 := by obtain ⟨A2, k2, e, _⟩ := h.hcs; exact ⟨_, _, _, e⟩
 have HN := zH (show aM (ts ++ [(⟨#[40]⟩ : ByteArray).data.toList] ++ fi (ks.map aA) 0 ++ [(⟨#[119, 104, 101, 110]⟩ : ByteArray).data.toList] ++ di [44] cs ++ [(⟨#[40]⟩ : ByteArray).data.toList, (str nm).data.toList, (⟨#[41]⟩ : ByteArray).data.toList, (⟨#[41]⟩ : ByteArray).data.toList]) by simpa [nL, aV] using hn); clear h hn ht hb; go_enter func49, ntmps49
 go_wp2_with (first
  | (go_at_call 43; with_reducible refine (dy (⟨#[40]⟩) (HT.o.alloc _) HN.o.left.left.left.left (bu zD) (by simp)).mono ?_
     rintro e w1 ⟨rfl, ht1, hk1⟩; have hbx1 := cy hk1 (heap_alloc_new w _) zO zD; obtain ⟨d0, d1, d2, d3, d4⟩ := aN hbx1; have HX1 := zH hbx1; have HT1 := zH ht1; have HK1 := zH (((a8.refl B b w).alloc HT.o.2 _).trans hk1); clear ht1 hk1 hbx1)
  | (go_at_call 99; with_reducible refine (rN HH.o (HT1.o) (HB.o.trans (HK1.o.below.mono HH.o.size)) HN.o.left.left.left).mono ?_
     rintro e w2 ⟨rfl, ht2, hk2⟩; have hbx2 := cy hk2 HX1.o zO zD; obtain ⟨d0, d1, d2, d3, d4⟩ := aN hbx2; have HX2 := zH hbx2; have HT2 := zH ht2; have HK2 := zH (HK1.o.trans hk2); clear ht2 hk2 hbx2)
  | (go_at_call 43; with_reducible refine (dy (⟨#[119, 104, 101, 110]⟩) (HT2.o) HN.o.left.left (bu zD) rfl).mono ?_
     rintro e w3 ⟨rfl, ht3, hk3⟩; have hbx3 := cy hk3 HX2.o zO zD; obtain ⟨d0, d1, d2, d3, d4⟩ := aN hbx3; have HX3 := zH hbx3; have HT3 := zH ht3; have HK3 := zH (HK2.o.trans hk3); have HC3 := zH (dp.came (b := b) HC.o HH.o.size (HB.o.trans (HK3.o.below.mono HH.o.size))); clear ht3 hk3 hbx3)
  | (go_at_call 100; refine (xg (s := [44]) _ HT3.o HC3.o HN.o.left (bu (x := str [44]) zD)).mono ?_; rintro e w4 ⟨rfl, ht4, hk4⟩; have hbx4 := cy hk4 HX3.o zO zD; obtain ⟨d0, d1, d2, d3, d4⟩ := aN hbx4; have HT4 := zH ht4; have HK4 := zH (HK3.o.trans hk4); clear ht4 hk4 hbx4)
  | (go_at_call 43; with_reducible refine (FE (⟨#[40]⟩) (str nm) (⟨#[41]⟩) (⟨#[41]⟩) (HT4.o) HN.o (bu zD) HH.o.hnm (bu zD) (bu zD) rfl).mono ?_
     rintro e w5 ⟨rfl, ht5, hk5⟩))
 go_end0
 exact ⟨rfl, by simpa [nL, aV] using ht5, HK4.o.trans hk5⟩
theorem wo {c : Tx} {t : List Tx} : ∀ (k : Nat) (cs : List Tx) (U : List (List Tx)), cs[k]? = some c -> U[k]? = some t -> dr (cs.take (k + 1)) (U.take (k + 1)) = dr (cs.take k) (U.take k) ++ [c :: [45, 62] :: t] := by
 intro k; induction k with
 | zero =>
   intro cs U hc ht; cases cs <;> cases U <;> simp_all [dr]
 | succ k ih =>
   intro cs U hc ht; cases cs with
   | nil => simp at hc
   | cons c' cs =>
     cases U with
     | nil => simp at ht
     | cons t' U =>
       simp only [List.getElem?_cons_succ] at hc ht; simp only [List.take_succ_cons, dr, List.cons_append]; rw [ih cs U hc ht]
theorem wm : ∀ (k : Nat) (cs : List Tx) (U : List (List Tx)), ∃ r, dr cs U = dr (cs.take k) (U.take k) ++ r := by
 intro k; induction k with
 | zero => intro cs U; exact ⟨_, by simp [dr]; rfl⟩
 | succ k ih =>
   intro cs U; cases cs with
   | nil => exact ⟨[], by simp [dr]⟩
   | cons c' cs =>
     cases U with
     | nil => exact ⟨[], by simp [dr]⟩
     | cons t' U =>
       obtain ⟨r, hr⟩ := ih cs U; exact ⟨r, by simp only [List.take_succ_cons, dr, List.cons_append]; rw [<- hr]⟩
theorem qR : ∀ (k : Nat) (cs : List Tx) (U : List (List Tx)), (cs.length <= k ∨ U.length <= k) -> dr (cs.take k) (U.take k) = dr cs U := by
 intro k; induction k with
 | zero =>
   intro cs U h; cases cs <;> cases U <;> simp_all [dr]
 | succ k ih =>
   intro cs U h; cases cs with
   | nil => simp [dr]
   | cons c' cs =>
     cases U with
     | nil => simp [dr]
     | cons t' U =>
       simp only [List.take_succ_cons, dr]; rw [ih cs U (by simpa using h)]
theorem zk (k : Nat) (cs : List Tx) (U : List (List Tx)) (hk : 0 < k) (hc : k <= cs.length) (ht : k <= U.length) : dr (cs.take k) (U.take k) ≠ [] := by
 obtain ⟨j, rfl⟩ : ∃ j, k = j + 1 := ⟨k - 1, by omega⟩; cases cs with
 | nil => simp at hc
 | cons c' cs =>
   cases U with
   | nil => simp at ht
   | cons t' U => simp [dr]
theorem pZ (s : Tx) (l m : List (List Tx)) : ∃ r, gK s (l ++ m) = gK s l ++ r := by
 cases l with
 | nil => exact ⟨_, by simp [gK]; rfl⟩
 | cons y r => exact ⟨_, by simp only [List.cons_append, gK, List.flatMap_append, <- List.append_assoc]; rfl⟩
def eJ (ts : List Tx) (word nm : Tx) (cs : List Tx) (U : List (List Tx)) (k : Nat) : List Tx := ts ++ [word, nm, [40]] ++ gK [124] (dr (cs.take k) (U.take k))
theorem ui {ts : List Tx} {word nm : Tx} {cs : List Tx} {U : List (List Tx)} (h : aM (ts ++ mg word nm cs U)) (k : Nat) : aM (eJ ts word nm cs U k) := by
 obtain ⟨r, hr⟩ := wm k cs U; obtain ⟨q, hq⟩ := pZ [124] (dr (cs.take k) (U.take k)) r; have e : ts ++ mg word nm cs U = eJ ts word nm cs U k ++ (q ++ [[41]]) := by
  unfold mg eJ; rw [hr, hq]; simp
 rw [e] at h; exact h.left
theorem wu (ts : List Tx) (word nm : Tx) {cs : List Tx} {U : List (List Tx)} {k : Nat} {c : Tx} {t : List Tx} (hc : cs[k]? = some c) (ht : U[k]? = some t) : eJ ts word nm cs U (k + 1) = eJ ts word nm cs U k ++ ((if k = 0 then [] else [[124]]) ++ ([c, [45, 62]] ++ t)) := by
 unfold eJ; rw [wo k cs U hc ht, lK]; by_cases h0 : k = 0
 . subst h0; simp [dr]
 . rw [if_neg h0, if_neg (zk k cs U zO (by have := (List.getElem?_eq_some_iff.1 hc).1; omega) (by have := (List.getElem?_eq_some_iff.1 ht).1; omega))]; simp
theorem vN {w : World} {a : Addr} {k : Nat} {c0 c1 c2 c3 c4 : Value} (h : cB w (some a) k [c0, c1, c2, c3, c4]) :
  (a.add (k * 5)).block < w.heap.size /\ w.cell? (a.add (k * 5)) = some c0 /\ w.cell? { block := (a.add (k * 5)).block, off := (a.add (k * 5)).off + 1 } = some c1 /\ w.cell? { block := (a.add (k * 5)).block, off := (a.add (k * 5)).off + 2 } = some c2 /\ w.cell? { block := (a.add (k * 5)).block, off := (a.add (k * 5)).off + 3 } = some c3 /\ w.cell? { block := (a.add (k * 5)).block, off := (a.add (k * 5)).off + 4 } = some c4 := by
 obtain ⟨a', e, _, r⟩ := dR h; cases e; exact r
theorem mW {B b : Nat} {w : World} {a : Addr} {n c : Nat} {l : List Tx} (h : dp B b w (.slice (some a) n c) l) {k : Nat} {x : Tx} (hx : l[k]? = some x) : w.cell? (a.add k) = some (.string (str x)) := by
 obtain ⟨a', e, r⟩ := h.cell (a8.refl _ _ _) hx; cases e; rwa [Nat.mul_one] at r
theorem uh {B b : Nat} {w0 : World} {op n : Int} {nm word : Tx} {cs : List Tx} {ks : List Ex} {cv : Value} {A : Option Addr} {c : Nat} {C : Nat -> List Value} (h : dd B b w0 nm cs ks cv A c C) (ho : (str word).size <= maxLen) {w : World} {ts : List Tx} (ht : bl B b ts w) (hb : Below w0.heap.size w0 w) (hn : aM (ts ++ mg word nm cs (ks.map aA))) :
  Calls prog 50 #[.pointer (some ⟨b, 0, none⟩), .string (str word), .agg #[.int .i64 op, .string (str nm), .int .i64 n, cv, .slice A ks.length c]] w (a7 B b (ts ++ mg word nm cs (ks.map aA)) w) := by
 have HT := zH ht; have HB := zH hb; have HH := zH h; have HO := zH ho; have hsz := hb.size; have hblt := ht.lt; have HC := zH h.hcs; have hlk : ks.length <= 9223372036854775807 := (by have := h.hl; have := h.hc; unfold maxLen at this; omega); obtain ⟨A2, k2, rfl, hl2, hm2, _⟩ := h.hcs; have hlc : cs.length <= 9223372036854775807 := (by unfold maxLen at hm2; omega); have HZ := zH hn; have HN := zH (show aM (ts ++ [(str word).data.toList, (str nm).data.toList, (⟨#[40]⟩ : ByteArray).data.toList]) by have := ui hn 0; simpa [eJ, dr, gK, aV] using this); clear h hn ht hb ho hl2 hm2; go_enter func50, ntmps50
 go_wp2_with (first
  | (go_at_call 43; with_reducible refine (FG (str word) (str nm) ⟨#[40]⟩ (HT.o.alloc _) HN.o HO.o HH.o.hnm (bu zD) (by simp)).mono ?_
     rintro e w1 ⟨rfl, ht1, hk1⟩; have hbx1 := cy hk1 (heap_alloc_new w _) zO zD; obtain ⟨d0, d1, d2, d3, d4⟩ := aN hbx1; have HX1 := zH hbx1; have HT1 := zH ht1; have HK1 := zH (((a8.refl B b w).alloc HT.o.2 _).trans hk1); clear ht1 hk1 hbx1))
 obtain ⟨m, hm⟩ : ∃ m : Nat, min (cs.length : Int) (ks.length : Int) = m := ⟨min cs.length ks.length, by omega⟩; rw [hm]; have HM := zH (show m <= cs.length /\ m <= ks.length /\ (cs.length <= m ∨ ks.length <= m) by omega); have hmx : m <= 9223372036854775807 := zO; clear hm; go_loopg [20] m (λ g v wr => ∃ k : Nat, k + g = m /\ v = .int .i64 k /\ bl B b (eJ ts word nm cs (ks.map aA) k) wr /\ a8 B b w wr /\ wr.heap[w.heap.size]? = some (.cells #[.int .i64 op, .string (str nm), .int .i64 n, .slice A2 cs.length k2, .slice A ks.length c] 25 (0, 0)))
 case atStart => exact ⟨0, by omega, rfl, by simpa [eJ, dr, gK, aV] using HT1.o, HK1.o, HX1.o⟩
 case round =>
  obtain ⟨k, hkg, rfl, hto, hkw, hbx⟩ := hrel; obtain ⟨d0, d1, d2, d3, d4⟩ := aN hbx; have HX := zH hbx; have HK := zH hkg; have HW := zH hkw; have HTO := zH hto; have hkl : k <= m := zO; clear hkg hto hkw hbx; by_cases hlt : k < m
  . obtain ⟨y, hy⟩ : ∃ y, ks[k]? = some y := ⟨_, List.getElem?_eq_getElem (by have := HM.o.2.1; omega)⟩; obtain ⟨x, hx⟩ : ∃ x, cs[k]? = some x := ⟨_, List.getElem?_eq_getElem (by have := HM.o.1; omega)⟩; have HCX := zH hx; have hkk : k < ks.length := (by have := HM.o.2.1; omega); have hkc : k < cs.length := (by have := HM.o.1; omega); have HKS := zH (wu ts word nm hx (show (ks.map aA)[k]? = some (aA y) by simp [hy])); have HZ1 := zH (ui HZ.o (k + 1)); have hC := HH.o.hk k y hy; have HI := zH (HH.o.ih k y hy); obtain ⟨o1, s1, n1, A3, m1, k1', A4, m2, k4', hL⟩ := (HH.o.hx k y hy).shape; generalize C k = L at hC HI hL; subst hL; have HBR := zH (HB.o.trans (HW.o.below.mono HH.o.size)); have hlx : (str x).size <= maxLen := (by obtain ⟨_, _, _, _, _, h3⟩ := HC.o; obtain ⟨_, _, _, h⟩ := h3 k x hx; exact h); have HLX := zH hlx; obtain ⟨a2, rfl, _⟩ := (dp.came (b := b) HC.o HH.o.size HBR.o).cell (a8.refl _ _ _) hx; obtain ⟨a, rfl, hcl⟩ := hC; have HEL := zH (show cB w0 (some a) k _ from ⟨a, rfl, hcl⟩); have e0 := mW (dp.came (b := b) HC.o HH.o.size HBR.o) hx; clear hy hx hlx; by_cases h0 : k = 0
    . have HN3 := zH (show aM (eJ ts word nm cs (ks.map aA) k ++ [(str x).data.toList, (⟨#[45, 62]⟩ : ByteArray).data.toList] ++ aA y) by have := HZ1.o; rw [HKS.o, if_pos h0] at this; simpa [aV] using this); have HQ := zH (show eJ ts word nm cs (ks.map aA) (k + 1) = eJ ts word nm cs (ks.map aA) k ++ [(str x).data.toList, (⟨#[45, 62]⟩ : ByteArray).data.toList] ++ aA y by rw [HKS.o, if_pos h0]; simp [aV]); have HKG := zH (show ¬ (0 < k) by omega); have hk0 : ¬ (0 < (k : Int)) := zO; clear h0
      go_wp2_with (first
      | (go_at_call 43; with_reducible refine (wP (str x) ⟨#[45, 62]⟩ HTO.o HN3.o.left HLX.o (bu zD) rfl).mono ?_
         rintro e w2 ⟨rfl, ht2, hk2⟩; have HW2 := zH (HW.o.trans hk2); have hbx2 := cy hk2 HX.o zO zD; obtain ⟨d0, d1, d2, d3, d4⟩ := aN hbx2; have HX2 := zH hbx2; have HT2 := zH ht2; have HB2 := zH (HB.o.trans (HW2.o.below.mono HH.o.size)); have e0 := mW (dp.came (b := b) HC.o HH.o.size HB2.o) HCX.o; obtain ⟨hab, q0, q1, q2, q3, q4⟩ := vN (HEL.o.under HB2.o); clear ht2 hk2 hbx2)
      | (go_at_call 19; refine (HI.o _ _ HT2.o HB2.o HN3.o).mono ?_; rintro e w3 ⟨rfl, ht3, hk3⟩))
      go_roundg (m - (k + 1))
      case measure => have := HK.o; omega
      case rel => exact ⟨k + 1, by omega, by go_num, by rw [HQ.o]; exact ht3, HW2.o.trans hk3, cy hk3 HX2.o zO zD⟩
    . have HN3 := zH (show aM (eJ ts word nm cs (ks.map aA) k ++ [(⟨#[124]⟩ : ByteArray).data.toList] ++ [(str x).data.toList, (⟨#[45, 62]⟩ : ByteArray).data.toList] ++ aA y) by have := HZ1.o; rw [HKS.o, if_neg h0] at this; simpa [aV] using this); have HQ := zH (show eJ ts word nm cs (ks.map aA) (k + 1) = eJ ts word nm cs (ks.map aA) k ++ [(⟨#[124]⟩ : ByteArray).data.toList] ++ [(str x).data.toList, (⟨#[45, 62]⟩ : ByteArray).data.toList] ++ aA y by rw [HKS.o, if_neg h0]; simp [aV]); have hk0 : 0 < k := zO; clear h0
      go_wp2_with (first
      | (go_at_call 43; with_reducible refine (dy ⟨#[124]⟩ HTO.o HN3.o.left.left (bu zD) rfl).mono ?_
         rintro e w2 ⟨rfl, ht2, hk2⟩; have HW2 := zH (HW.o.trans hk2); have hbx2 := cy hk2 HX.o zO zD; obtain ⟨d0, d1, d2, d3, d4⟩ := aN hbx2; have HX2 := zH hbx2; have HT2 := zH ht2; have HB2 := zH (HB.o.trans (HW2.o.below.mono HH.o.size)); have e0 := mW (dp.came (b := b) HC.o HH.o.size HB2.o) HCX.o; obtain ⟨hab, q0, q1, q2, q3, q4⟩ := vN (HEL.o.under HB2.o); clear ht2 hk2 hbx2)
      | (go_at_call 43; with_reducible refine (wP (str x) ⟨#[45, 62]⟩ HT2.o HN3.o.left HLX.o (bu zD) rfl).mono ?_
         rintro e w3 ⟨rfl, ht3, hk3⟩; have HW3 := zH (HW2.o.trans hk3); have hbx3 := cy hk3 HX2.o zO zD; obtain ⟨d0, d1, d2, d3, d4⟩ := aN hbx3; have HX3 := zH hbx3; have HT3 := zH ht3; have HB3 := zH (HB.o.trans (HW3.o.below.mono HH.o.size)); have e0 := mW (dp.came (b := b) HC.o HH.o.size HB3.o) HCX.o; obtain ⟨hab, q0, q1, q2, q3, q4⟩ := vN (HEL.o.under HB3.o); clear ht3 hk3 hbx3)
      | (go_at_call 19; refine (HI.o _ _ HT3.o HB3.o HN3.o).mono ?_; rintro e w4 ⟨rfl, ht4, hk4⟩))
      go_roundg (m - (k + 1))
      case measure => have := HK.o; omega
      case rel => exact ⟨k + 1, by omega, by go_num, by rw [HQ.o]; exact ht4, HW3.o.trans hk4, cy hk4 HX3.o zO zD⟩
  . have hke : k = m := by omega
    have HKE := zH hke
    have HN2 := zH (show aM (eJ ts word nm cs (ks.map aA) k ++ [(⟨#[41]⟩ : ByteArray).data.toList]) by
     have := HZ.o; unfold eJ; rw [hke, qR m _ _ (by have := HM.o.2.2; simpa using this)]; simpa [mg] using this)
    clear hke
    go_wp2_with (first
     | (go_at_call 43; with_reducible refine (dy ⟨#[41]⟩ HTO.o HN2.o (bu zD) rfl).mono ?_
        rintro e w5 ⟨rfl, ht5, hk5⟩))
    go_end0
    refine ⟨rfl, ?_, HW.o.trans hk5⟩; unfold eJ at ht5; rw [HKE.o, qR m _ _ (by have := HM.o.2.2; simpa using this)] at ht5; simpa [mg] using ht5
def eI (ts : List Tx) (nm : Tx) (cs : List Tx) (U : List (List Tx)) (k : Nat) : List Tx := ts ++ [nm] ++ eu cs ++ [[40]] ++ gK [44] (U.take k)
theorem t7 {ts : List Tx} {nm : Tx} {cs : List Tx} {U : List (List Tx)} (h : aM (ts ++ jK nm cs U)) (k : Nat) : aM (eI ts nm cs U k) := by
 obtain ⟨q, hq⟩ := pZ [44] (U.take k) (U.drop k); rw [List.take_append_drop] at hq; have e : ts ++ jK nm cs U = eI ts nm cs U k ++ (q ++ [[41]]) := by
  unfold jK eI; rw [hq]; simp
 rw [e] at h; exact h.left
theorem we (ts : List Tx) (nm : Tx) {cs : List Tx} {U : List (List Tx)} {k : Nat} {t : List Tx} (ht : U[k]? = some t) : eI ts nm cs U (k + 1) = eI ts nm cs U k ++ ((if k = 0 then [] else [[44]]) ++ t) := by
 unfold eI; have hk : k < U.length := (List.getElem?_eq_some_iff.1 ht).1; rw [br ht, lK]; by_cases h0 : k = 0
 . subst h0; simp
 . have h1 : U.take k ≠ [] := by
    intro e; have := congrArg List.length e; rw [List.length_take, List.length_nil] at this; omega
   rw [if_neg h0, if_neg h1]; simp
theorem BO {B b : Nat} {w0 : World} {op n : Int} {nm : Tx} {cs : List Tx} {ks : List Ex} {cv : Value} {A : Option Addr} {c : Nat} {C : Nat -> List Value} (h : dd B b w0 nm cs ks cv A c C) {w : World} {ts : List Tx} (ht : bl B b ts w) (hb : Below w0.heap.size w0 w) (hn : aM (ts ++ jK nm cs (ks.map aA))) :
  Calls prog 51 #[.pointer (some ⟨b, 0, none⟩), .agg #[.int .i64 op, .string (str nm), .int .i64 n, cv, .slice A ks.length c]] w (a7 B b (ts ++ jK nm cs (ks.map aA)) w) := by
 have HT := zH ht; have HB := zH hb; have HH := zH h; have hsz := hb.size; have hblt := ht.lt; have HC := zH h.hcs; have hlk : ks.length <= 9223372036854775807 := (by have := h.hl; have := h.hc; unfold maxLen at this; omega); obtain ⟨A2, n2, k2, rfl⟩ : ∃ A2 n2 k2, cv = .slice A2 n2 k2 := by obtain ⟨A2, k2, e, _⟩ := h.hcs; exact ⟨_, _, _, e⟩
 have HZ := zH hn; have HN := zH (show aM (ts ++ [(str nm).data.toList] ++ eu cs ++ [(⟨#[40]⟩ : ByteArray).data.toList]) by have := t7 hn 0; simpa [eI, gK, aV] using this); clear h hn ht hb; go_enter func51, ntmps51
 go_wp2_with (first
  | (go_at_call 43; with_reducible refine (dy (str nm) (HT.o.alloc _) HN.o.left.left HH.o.hnm (by simp)).mono ?_
     rintro e w1 ⟨rfl, ht1, hk1⟩; have hbx1 := cy hk1 (heap_alloc_new w _) zO zD; obtain ⟨d0, d1, d2, d3, d4⟩ := aN hbx1; have HX1 := zH hbx1; have HT1 := zH ht1; have HK1 := zH (((a8.refl B b w).alloc HT.o.2 _).trans hk1); have HC1 := zH (dp.came (b := b) HC.o HH.o.size (HB.o.trans (HK1.o.below.mono HH.o.size))); clear ht1 hk1 hbx1)
  | (go_at_call 101; refine (sH _ HT1.o HC1.o HN.o.left).mono ?_; rintro e w2 ⟨rfl, ht2, hk2⟩; have hbx2 := cy hk2 HX1.o zO zD; obtain ⟨d0, d1, d2, d3, d4⟩ := aN hbx2; have HX2 := zH hbx2; have HT2 := zH ht2; have HK2 := zH (HK1.o.trans hk2); clear ht2 hk2 hbx2)
  | (go_at_call 43; with_reducible refine (dy ⟨#[40]⟩ HT2.o HN.o (bu zD) rfl).mono ?_
     rintro e w3 ⟨rfl, ht3, hk3⟩; have hbx3 := cy hk3 HX2.o zO zD; obtain ⟨d0, d1, d2, d3, d4⟩ := aN hbx3; have HT3 := zH ht3; have HK3 := zH (HK2.o.trans hk3); clear ht3 hk3 hbx3))
 go_loopg [21] ks.length (λ g v wr => ∃ k : Nat, k + g = ks.length /\ v = .int .i64 k /\ bl B b (eI ts nm cs (ks.map aA) k) wr /\ a8 B b w wr)
 case atStart => exact ⟨0, by omega, rfl, by simpa [eI, gK, aV] using HT3.o, HK3.o⟩
 case round =>
  obtain ⟨k, hkg, rfl, hto, hkw⟩ := hrel; have HK := zH hkg; have HW := zH hkw; have HTO := zH hto; have hkl : k <= ks.length := zO; have hblr := hto.lt; clear hkg hto hkw; by_cases hlt : k < ks.length
  . obtain ⟨y, hy⟩ := zG hlt; have HKS := zH (we ts nm (cs := cs) (show (ks.map aA)[k]? = some (aA y) by simp [hy])); have HZ1 := zH (t7 HZ.o (k + 1)); have hC := HH.o.hk k y hy; have HI := zH (HH.o.ih k y hy); obtain ⟨o1, s1, n1, A3, m1, k1', A4, m2, k4', hL⟩ := (HH.o.hx k y hy).shape; generalize C k = L at hC HI hL; subst hL; have HBR := zH (HB.o.trans (HW.o.below.mono HH.o.size)); have hszr := HBR.o.size; obtain ⟨a, rfl, hab, haa, q0, q1, q2, q3, q4⟩ := dR (hC.under HBR.o); clear hy hC; by_cases h0 : k = 0
    . have HN3 := zH (show aM (eI ts nm cs (ks.map aA) k ++ aA y) by have := HZ1.o; rw [HKS.o, if_pos h0] at this; simpa using this); have HQ := zH (show eI ts nm cs (ks.map aA) (k + 1) = eI ts nm cs (ks.map aA) k ++ aA y by rw [HKS.o, if_pos h0]; simp); have hk0 : ¬ (0 < (k : Int)) := zO; clear h0; go_wp2_with (go_at_call 19; refine (HI.o _ _ (HTO.o.alloc _) (HBR.o.alloc zO _) HN3.o).mono ?_; rintro e w3 ⟨rfl, ht3, hk3⟩)
      go_roundg (ks.length - (k + 1))
      case measure => have := HK.o; omega
      case rel => exact ⟨k + 1, by omega, by go_num, by rw [HQ.o]; exact ht3, (HW.o.alloc HT.o.2 _).trans hk3⟩
    . have HN3 := zH (show aM (eI ts nm cs (ks.map aA) k ++ [(⟨#[44]⟩ : ByteArray).data.toList] ++ aA y) by have := HZ1.o; rw [HKS.o, if_neg h0] at this; simpa [aV] using this); have HQ := zH (show eI ts nm cs (ks.map aA) (k + 1) = eI ts nm cs (ks.map aA) k ++ [(⟨#[44]⟩ : ByteArray).data.toList] ++ aA y by rw [HKS.o, if_neg h0]; simp); have hk0 : 0 < k := zO; clear h0
      go_wp2_with (first
      | (go_at_call 43; with_reducible refine (dy ⟨#[44]⟩ (HTO.o.alloc _) HN3.o.left (bu zD) (by simp)).mono ?_
         rintro e w2 ⟨rfl, ht2, hk2⟩; have HW2 := zH ((HW.o.alloc HT.o.2 _).trans hk2); have hbx2 := cy hk2 (heap_alloc_new wr _) zO zD; obtain ⟨d0, d1, d2, d3, d4⟩ := aN hbx2; have HT2 := zH ht2; have HB2 := zH (HB.o.trans (HW2.o.below.mono HH.o.size)); clear ht2 hk2 hbx2)
      | (go_at_call 19; refine (HI.o _ _ HT2.o HB2.o HN3.o).mono ?_; rintro e w4 ⟨rfl, ht4, hk4⟩))
      go_roundg (ks.length - (k + 1))
      case measure => have := HK.o; omega
      case rel => exact ⟨k + 1, by omega, by go_num, by rw [HQ.o]; exact ht4, HW2.o.trans hk4⟩
  . have hke : k = ks.length := by omega
    have HKE := zH hke
    have HN2 := zH (show aM (eI ts nm cs (ks.map aA) k ++ [(⟨#[41]⟩ : ByteArray).data.toList]) by
     have := HZ.o; unfold eI; rw [hke, List.take_of_length_le (by simp)]; simpa [jK] using this)
    clear hke; go_wp2_with (go_at_call 43; (with_reducible refine (dy ⟨#[41]⟩ HTO.o HN2.o (bu zD) rfl).mono ?_); rintro e w5 ⟨rfl, ht5, hk5⟩)
    go_end0
    refine ⟨rfl, ?_, HW.o.trans hk5⟩; unfold eI at ht5; rw [HKE.o, List.take_of_length_le (by simp)] at ht5; simpa [jK] using ht5
end Go.Proofs.YtdcjlihaldhhjaaGreatDoor
