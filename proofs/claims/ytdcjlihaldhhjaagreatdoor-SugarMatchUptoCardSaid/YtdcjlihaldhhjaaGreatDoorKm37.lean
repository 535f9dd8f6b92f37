import Derived.Test.YtdcjlihaldhhjaaGreatDoorKm35
set_option maxHeartbeats 4000000
set_option maxRecDepth 100000
namespace Go.Proofs.YtdcjlihaldhhjaaGreatDoor
open _root_.Go.Proofs.Tryz
open Go.RowKit
def Ck (l : List Tx) (w : World) (e : Ending) (w' : World) : Prop := ∃ v, e = .returned v /\ aG w' v l /\ Below w.heap.size w w'
theorem DU {w : World} {a : Addr} {v : Value} {n : Nat} (h : w.cell? { block := (a.add (0 * n)).block, off := (a.add (0 * n)).off + 1 } = some v) : w.cell? { block := a.block, off := a.off + 1 } = some v := by
 rw [Nat.zero_mul, add_zero] at h; exact h
theorem tY {w0 : World} {L : List Value} {i : cC} (hL : bO w0 L i) (hlen : (bp i).length <= 2097152) : ∀ w, Below w0.heap.size w0 w -> Calls prog 109 #[.agg L.toArray] w (Ck (bp i) w) := by
 intro w hb; have HB := zH hb; have hsz := hb.size; obtain ⟨⟨nm, e⟩, sts⟩ := i; obtain ⟨L', sv, rfl, ⟨nv, Le, rfl, hnv, hxe⟩, hst⟩ := hL; have HNV := zH hnv; obtain ⟨nA, nn, nk, rfl⟩ := aw.shape hnv; obtain ⟨eo1, es2, eo3, eA4, en4, ek4, eA5, en5, ek5, rfl⟩ := hxe.shape; obtain ⟨sA, sc, rfl, hsc, hsm, hes⟩ := hst; simp only [List.cons_append, List.nil_append]; have hsl : sts.length <= 9223372036854775807 := (by have h : sts.length <= sc := hsc; unfold maxLen at hsm; omega); clear hb hnv hxe hsc hsm; cases sts with
 | nil =>
   have hal := zH (zA w (.cells #[.slice nA nn nk, .int .i64 eo1, .string es2, .int .i64 eo3, .slice eA4 en4 ek4, .slice eA5 en5 ek5, .slice sA ([] : List ba).length sc] 31)); clear hes; go_enter func109, ntmps109
   go_wp2_with fail
   go_ret; exact ⟨_, rfl, (HNV.o.under HB.o).under hal.o, hal.o⟩
 | cons z sr =>
   have hd : (((z :: sr).length : Int) == 0) = false := (by simp; omega); have hpos : 0 < (z :: sr).length := (by simp); obtain ⟨N, hEN, hRN⟩ := hes 0 z rfl; obtain ⟨zn, eqs, ways⟩ := z; obtain ⟨ev, wv, rfl, _, hev, hwv⟩ := hRN; obtain ⟨qA, qc, rfl, hqc, hqm, heq⟩ := hev; obtain ⟨yA, yn, yc, rfl⟩ := aw.shape hwv; have hql : eqs.length <= 9223372036854775807 := (by have h : eqs.length <= qc := hqc; unfold maxLen at hqm; omega); have hX : bp ⟨⟨nm, e⟩, ⟨zn, eqs, ways⟩ :: sr⟩ = eqs.flatMap QEq.names := rfl; rw [hX] at hlen ⊢; obtain ⟨b, rfl, hbb, hbbb, e0, e1, e2⟩ := jJ (hEN.under HB.o); have e1 := DU e1; generalize hn : (⟨zn, eqs, ways⟩ :: sr : List ba).length = sn at *; clear hqc hqm hEN hes hwv hX e0 e2 hbbb; go_enter func109, ntmps109
   go_wp2_with fail
   go_loopg [3, 19] eqs.length (λ g v i wr => ∃ k : Nat, k + g = eqs.length /\ i = .int .i64 k /\ eE w.heap.size wr v ((eqs.take k).flatMap QEq.names) /\ Below w.heap.size w wr)
   case atStart => exact ⟨0, by omega, rfl, by simpa using eE.nil _ _, (Below.refl _ w).alloc (Nat.le_refl _) _⟩
   case round =>
    obtain ⟨wr1, rfl⟩ := zW wr; obtain ⟨k, hkg, rfl, ho, hbw⟩ := hrel; have HK := zH hkg; have HW := zH hbw; have HO := zH ho; have hszw := hbw.size; have hkl : k <= eqs.length := zO; clear hkg hbw ho; by_cases hlt : k < eqs.length
    . obtain ⟨q, hq⟩ := zG hlt; have HT := zH (fP (f := QEq.names) hq); have hlen1 : ((eqs.take k).flatMap QEq.names).length + q.names.length <= 4194304 := by
       have h1 := rS QEq.names eqs (k + 1); rw [fP hq, List.length_append] at h1; omega
      obtain ⟨N3, hEN3, nv3, Le3, rfl, hnv3, hxe3⟩ := heq k q hq; have HN3 := zH hnv3; obtain ⟨nA3, nn3, nk3, rfl⟩ := aw.shape hnv3; obtain ⟨fo1, fs2, fo3, fA4, fn4, fk4, fA5, fn5, fk5, rfl⟩ := hxe3.shape; have HB3 := zH (HB.o.trans (HW.o.mono hsz)); obtain ⟨c, rfl, hcb, hcbb, f0, f1, f2, f3, f4, f5⟩ := lp (hEN3.under HB3.o); have HA3 := zH (zA wr1 (.cells #[.slice nA3 nn3 nk3, .int .i64 fo1, .string fs2, .int .i64 fo3, .slice fA4 fn4 fk4, .slice fA5 fn5 fk5] 28)); clear hnv3 hxe3 hEN3 hq heq; go_wp2_with (at_builtin; refine jd rfl _ _ rfl rfl rfl (HO.o.alloc _) ((HN3.o.under HB3.o).under HA3.o) hlen1 ?_ ?_; (first | omega | (simp; omega)); (intro v5 w5 h5; obtain ⟨ho5, hb5, _⟩ := h5; have HO5 := zH ho5; have HB5 := zH ((HW.o.alloc zO _).trans hb5); clear ho5 hb5))
      go_roundg (eqs.length - (k + 1))
      case measure => have := HK.o; omega
      case rel => exact ⟨k + 1, by omega, by go_num, by rw [HT.o]; exact HO5.o, HB5.o⟩
    . have hke : k = eqs.length := by omega
      have HOe := zH (show eE w.heap.size wr1 _ (eqs.flatMap QEq.names) by have := HO.o; rwa [hke, List.take_length] at this); clear hke; go_wp2_with fail
      go_ret; exact ⟨_, rfl, HOe.o.strs, HW.o⟩
end Go.Proofs.YtdcjlihaldhhjaaGreatDoor
namespace Go.Proofs.YtdcjlihaldhhjaaGreatDoor
open _root_.Go.Proofs.Tryz
open Go.RowKit
open Go.ChangeMaps Go.MapKept
open Go.Maps
theorem tZ {w : World} {l : List (Tx × Value)} {cs : List (Tx × List Tx)} (h : eL w l cs) : ∀ p ∈ l, ShE p.2 := by
 intro p hp; obtain ⟨i, hi⟩ := List.getElem?_of_mem hp; obtain ⟨a, b⟩ := p; obtain ⟨x, hx⟩ := mX (l := cs) (m := l) h.1.symm hi; obtain ⟨s, A, m, j, e, _⟩ := h.2 i _ _ hi hx; exact ⟨s, A, m, j, e⟩
theorem rF {l : List (Tx × Value)} {ns : List (Tx × bc)} (h : gF l ns) : ∀ p ∈ l, ShN p.2 := by
 intro p hp; obtain ⟨i, hi⟩ := List.getElem?_of_mem hp; obtain ⟨a, b⟩ := p; obtain ⟨x, hx⟩ := mX (l := ns) (m := l) h.1.symm hi; obtain ⟨s, A1, c1, A2, c2, A3, c3, A4, m4, c4, e⟩ := h.2 i _ _ hi hx; exact ⟨s, A1, A2, A3, A4, _, c1, _, c2, _, c3, m4, c4, e⟩
theorem DN : jD 145 := enters_of func145 zK rfl
theorem DO : jD 104 := enters_of func104 zK rfl
section
variable {S P e1 c1 n1 t1 : Nat} {x1 x2 x3 x4 x5 x6 x7 : Value} {sp : a6}
theorem vI {w0 : World} (h : aY w0 P e1 c1 n1 t1 sp) (hbox : w0.heap[S]? = some (.cells #[.pointer (some ⟨P, 0, none⟩), x1, x2, x3, x4, x5, x6, x7] 120 (0, 0)))
  {N : Nat} (hN : w0.heap[N]? = some (.cells #[.pointer (some ⟨S, 0, none⟩)] 117 (0, 0))) {x : Tx} (hl : x.length <= maxLen) :
  ∀ w, Below w0.heap.size w0 w -> Calls prog 145 #[.string (str x), .pointer (some ⟨N, 0, none⟩)] w (ax (sp.conKeys.contains x) w) := by
 intro w hw; have h := h.under hw; obtain ⟨l, hm, hr⟩ := h.mc; have HK := zH (show aC l = sp.conKeys from hr.1); have H := zH (ij hm (tZ hr) hl); have x0 := mO (ag hw hN); obtain ⟨y0, y1, y2, y3, y4, y5, y6, y7⟩ := fq (ag hw hbox); obtain ⟨z0, z1, z2, z3⟩ := h.row; clear h hN hl hw hbox hm hr; go_enter func145, ntmps145
 go_wp2_with (go_at_call 102; (with_reducible refine H.o.mono ?_); rintro e w1 ⟨rfl, hb1⟩)
 go_ret; exact ⟨aj (by rw [HK.o, List.contains_eq_mem]), hb1⟩
theorem uB {w0 : World} (h : aY w0 P e1 c1 n1 t1 sp) (hbox : w0.heap[S]? = some (.cells #[.pointer (some ⟨P, 0, none⟩), x1, x2, x3, x4, x5, x6, x7] 120 (0, 0)))
  {N M : Nat} (hN : w0.heap[N]? = some (.cells #[.pointer (some ⟨S, 0, none⟩)] 117 (0, 0))) {nm : Tx} {u1 u2 u3 u4 : Value} (hM : w0.heap[M]? = some (.cells #[.string (str nm), u1, u2, u3, u4] 34 (0, 0))) {x : Tx} (hl : x.length <= maxLen) :
  ∀ w, Below w0.heap.size w0 w -> Calls prog 104 #[.string (str x), .pointer (some ⟨M, 0, none⟩), .pointer (some ⟨N, 0, none⟩)] w (ax (x == nm || sp.nodeKeys.contains x) w) := by
 intro w hw; have h := h.under hw; obtain ⟨l, hm, hr⟩ := h.mn; have HK := zH (show aC l = sp.nodeKeys from hr.1); have H := zH (ec hm (rF hr) hl); have x0 := mO (ag hw hN); obtain ⟨y0, y1, y2, y3, y4, y5, y6, y7⟩ := fq (ag hw hbox); obtain ⟨z0, z1, z2, z3⟩ := h.row; obtain ⟨v0, _, _, _, _⟩ := aN (ag hw hM); clear h hN hl hw hbox hm hr hM; by_cases hx : x = nm
 . subst hx; go_enter func104, ntmps104
   go_wp2_with fail
   go_ret; exact ⟨aj (by simp), Below.refl _ _⟩
 . have hq : ((str x).toList == (str nm).toList) = false := by rw [cR, cR]; simp; exact λ e => hx e
   have HX := zH hx; clear hx; go_enter func104, ntmps104
   go_wp2_with (go_at_call 105; (with_reducible refine H.o.mono ?_); rintro e w1 ⟨rfl, hb1⟩; have HB1 := zH hb1; clear hb1)
   go_ret; exact ⟨aj (by rw [HK.o]; simp [HX.o]), HB1.o⟩
end
end Go.Proofs.YtdcjlihaldhhjaaGreatDoor
