import Derived.Lib.AppendIntMem
import Derived.Lib.BufferKept
import Derived.Lib.ItoaLen
import Derived.Lib.LaidTab
import Derived.Lib.QuietBelow
import Derived.Shelf.Small.Wraps
import Derived.Shelf.Strconv.Itoa4
import Derived.Test.YtkfacdofkfabnaaGreatDoorKm12
set_option maxHeartbeats 1000000
set_option maxRecDepth 100000
namespace Go.Proofs.YtkfacdofkfabnaaGreatDoor
open _root_.Go.Proofs.Tryz
open Go.RowKit
def Tab (w : World) : Prop := Lib.TabIs prog w "internal/strconv.uint64pow10" .u64 Lib.pow10Tab
theorem Tab.under {w w' : World} (h : Tab w) (hb : Below w.heap.size w w') : Tab w' := by
 unfold Tab Lib.TabIs World.var? at h ⊢; cases hg : prog.globalNamed "internal/strconv.uint64pow10" with
 | none => rw [hg] at h; cases h
 | some g =>
   rw [hg] at h; simp only [Option.bind_some] at h ⊢; have hlt : g < w.heap.size := by
    rcases Nat.lt_or_ge g w.heap.size with h' | h'
    . exact h'
    . rw [Array.getElem?_eq_none h'] at h; cases h
   rw [hb.block g hlt]; exact h
theorem yO (n : Int) (h : gY n) (w : World) (ht : Tab w) : Calls prog 41 #[.int .i64 n, .int .i64 10] w λ e w' => e = .returned (.string (str (Lib.itoa n))) /\ Below w.heap.size w w' :=
 (Any.strconv_FormatInt_10 laysM173 n h.1 h.2 w ht).mono λ _ _ ⟨h1, k, os, h2⟩ => ⟨h1, by rw [h2]; exact Lib.below_grow _ _ (Nat.le_refl _) _ _⟩
theorem wa (b : Bool) (w : World) : Calls prog 42 #[.bool b] w λ e w' => e = .returned (.string (str (if b then rE else nU))) /\ w = w' :=
 (Any.strconv_FormatBool lays121 b w).mono λ _ _ ⟨h1, h2⟩ => ⟨by rw [h1]; cases b <;> rfl, h2.symm⟩
theorem qu {w w' : World} (h : Below w.heap.size w w') (row : Option Nat) : w.grownBy w' row := ⟨h.os, h.tape, h.output, h.size, λ k hk _ => h.block k hk⟩
theorem de.under {B b : Nat} {p : Value} {bs : List Value} {g : Bool} {w w' : World} (h : de B b p bs g w) (hb : Below w.heap.size w w') : de B b p bs g w' := by
 have hlt := h.lt; obtain ⟨hB, v, hbk, hown, hne⟩ := h; exact ⟨hB, v, (hb.block b hlt).trans hbk, hown.kept (qu hb none) (by cases hv : v.ownBlock <;> simp), hne⟩
theorem bN.under {B b : Nat} {ts : List Tx} {w w' : World} (h : bN B b ts w) (hb : Below w.heap.size w w') : bN B b ts w' :=
 ⟨h.1.elim (λ x => .inl (x.under hb)) (λ x => .inr (x.under hb)), Nat.le_trans h.2 hb.size⟩
theorem bl.same {B b : Nat} {w w' : World} (hB : B <= w.heap.size) (hb : Below w.heap.size w w') : bl B b w w' := ⟨hb.mono hB, (Lib.OthersKept.refl _ _ w).below hb⟩
theorem DI (op : Int) : op = 1 ∨ op = 2 ∨ op = 3 ∨ op = 4 ∨ op = 5 ∨ op = 6 ∨ op = 7 ∨ op = 8 ∨ op = 9 ∨ op = 10 ∨ op = 11 ∨ op = 12 ∨ op = 13 ∨ op = 14 ∨ op = 15 ∨ (op ≠ 1 /\ op ≠ 2 /\ op ≠ 3 /\ op ≠ 4 /\ op ≠ 5 /\ op ≠ 6 /\ op ≠ 7 /\ op ≠ 8 /\ op ≠ 9 /\ op ≠ 10 /\ op ≠ 11 /\ op ≠ 12 /\ op ≠ 13 /\ op ≠ 14 /\ op ≠ 15) := by omega
section
variable {B b : Nat} {w0 : World} {n : Int} {nm : Tx} {cs : List Tx} {ks : List Ex} {cv : Value} {A : Option Addr} {c : Nat} {C : Nat -> List Value}
theorem Hh (h : dH B b w0 nm cs ks cv A c C) {w : World} {ts : List Tx} (ht : bN B b ts w) (hb : Below w0.heap.size w0 w) (hn : aQ (ts ++ aV 5 nm n cs (ks.map aE))) :
  Calls prog 16 #[.pointer (some ⟨b, 0, none⟩), .agg #[.int .i64 5, .string (str nm), .int .i64 n, cv, .slice A ks.length c]] w (bk B b (ts ++ aV 5 nm n cs (ks.map aE)) w) := by
 have e : aV 5 nm n cs (ks.map aE) = fR nm (ks.map aE) := (by simp [aV]); have HE := zH e; have HN := zH (show aQ (ts ++ fR nm (ks.map aE)) by rw [e] at hn; exact hn); clear e hn; have HT := zH ht; have HB := zH hb; have HH := zH h; have hsz := hb.size; have hblt := ht.lt; obtain ⟨A2, n2, k2, rfl⟩ : ∃ A2 n2 k2, cv = .slice A2 n2 k2 := by obtain ⟨A2, k2, e, _⟩ := h.hcs; exact ⟨_, _, _, e⟩
 clear h ht hb; go_enter func16, ntmps16
 go_wp2_with (go_at_call 43; refine (pU HH.o HH.o.hnm (HT.o.alloc _) (HB.o.alloc zO _) HN.o).mono ?_; rintro e w1 ⟨rfl, ht1, hk1⟩)
 go_end0
 exact ⟨rfl, by rw [HE.o]; exact ht1, ((bl.refl B b w).alloc HT.o.2 _).trans hk1⟩
theorem Hg (h : dH B b w0 nm cs ks cv A c C) {w : World} {ts : List Tx} (ht : bN B b ts w) (hb : Below w0.heap.size w0 w) (hn : aQ (ts ++ aV 6 nm n cs (ks.map aE))) :
  Calls prog 16 #[.pointer (some ⟨b, 0, none⟩), .agg #[.int .i64 6, .string (str nm), .int .i64 n, cv, .slice A ks.length c]] w (bk B b (ts ++ aV 6 nm n cs (ks.map aE)) w) := by
 have e : aV 6 nm n cs (ks.map aE) = eK nm (ks.map aE) := (by simp [aV]); have HE := zH e; have HN := zH (show aQ (ts ++ eK nm (ks.map aE)) by rw [e] at hn; exact hn); clear e hn; have HT := zH ht; have HB := zH hb; have HH := zH h; have hsz := hb.size; have hblt := ht.lt; obtain ⟨A2, n2, k2, rfl⟩ : ∃ A2 n2 k2, cv = .slice A2 n2 k2 := by obtain ⟨A2, k2, e, _⟩ := h.hcs; exact ⟨_, _, _, e⟩
 clear h ht hb; go_enter func16, ntmps16
 go_wp2_with (go_at_call 44; refine (kX HH.o HH.o.hnm (HT.o.alloc _) (HB.o.alloc zO _) HN.o).mono ?_; rintro e w1 ⟨rfl, ht1, hk1⟩)
 go_end0
 exact ⟨rfl, by rw [HE.o]; exact ht1, ((bl.refl B b w).alloc HT.o.2 _).trans hk1⟩
theorem Hf (h : dH B b w0 nm cs ks cv A c C) {w : World} {ts : List Tx} (ht : bN B b ts w) (hb : Below w0.heap.size w0 w) (hn : aQ (ts ++ aV 7 nm n cs (ks.map aE))) :
  Calls prog 16 #[.pointer (some ⟨b, 0, none⟩), .agg #[.int .i64 7, .string (str nm), .int .i64 n, cv, .slice A ks.length c]] w (bk B b (ts ++ aV 7 nm n cs (ks.map aE)) w) := by
 have e : aV 7 nm n cs (ks.map aE) = jt (ks.map aE) := (by simp [aV]); have HE := zH e; have HN := zH (show aQ (ts ++ jt (ks.map aE)) by rw [e] at hn; exact hn); clear e hn; have HT := zH ht; have HB := zH hb; have HH := zH h; have hsz := hb.size; have hblt := ht.lt; obtain ⟨A2, n2, k2, rfl⟩ : ∃ A2 n2 k2, cv = .slice A2 n2 k2 := by obtain ⟨A2, k2, e, _⟩ := h.hcs; exact ⟨_, _, _, e⟩
 clear h ht hb; go_enter func16, ntmps16
 go_wp2_with (go_at_call 45; refine (zh HH.o (HT.o.alloc _) (HB.o.alloc zO _) HN.o).mono ?_; rintro e w1 ⟨rfl, ht1, hk1⟩)
 go_end0
 exact ⟨rfl, by rw [HE.o]; exact ht1, ((bl.refl B b w).alloc HT.o.2 _).trans hk1⟩
theorem He (h : dH B b w0 nm cs ks cv A c C) {w : World} {ts : List Tx} (ht : bN B b ts w) (hb : Below w0.heap.size w0 w) (hn : aQ (ts ++ aV 8 nm n cs (ks.map aE))) :
  Calls prog 16 #[.pointer (some ⟨b, 0, none⟩), .agg #[.int .i64 8, .string (str nm), .int .i64 n, cv, .slice A ks.length c]] w (bk B b (ts ++ aV 8 nm n cs (ks.map aE)) w) := by
 have e : aV 8 nm n cs (ks.map aE) = eK Hc (ks.map aE) := (by simp [aV]); have HE := zH e; have HN := zH (show aQ (ts ++ eK Hc (ks.map aE)) by rw [e] at hn; exact hn); clear e hn; have HT := zH ht; have HB := zH hb; have HH := zH h; have hsz := hb.size; have hblt := ht.lt; obtain ⟨A2, n2, k2, rfl⟩ : ∃ A2 n2 k2, cv = .slice A2 n2 k2 := by obtain ⟨A2, k2, e, _⟩ := h.hcs; exact ⟨_, _, _, e⟩
 clear h ht hb; go_enter func16, ntmps16
 go_wp2_with (go_at_call 44; refine (kX (o := Hc) HH.o (bP zD) (HT.o.alloc _) (HB.o.alloc zO _) HN.o).mono ?_; rintro e w1 ⟨rfl, ht1, hk1⟩)
 go_end0
 exact ⟨rfl, by rw [HE.o]; exact ht1, ((bl.refl B b w).alloc HT.o.2 _).trans hk1⟩
theorem Hd (h : dH B b w0 nm cs ks cv A c C) {w : World} {ts : List Tx} (ht : bN B b ts w) (hb : Below w0.heap.size w0 w) (hn : aQ (ts ++ aV 9 nm n cs (ks.map aE))) :
  Calls prog 16 #[.pointer (some ⟨b, 0, none⟩), .agg #[.int .i64 9, .string (str nm), .int .i64 n, cv, .slice A ks.length c]] w (bk B b (ts ++ aV 9 nm n cs (ks.map aE)) w) := by
 have e : aV 9 nm n cs (ks.map aE) = fR Gg (ks.map aE) := (by simp [aV]); have HE := zH e; have HN := zH (show aQ (ts ++ fR Gg (ks.map aE)) by rw [e] at hn; exact hn); clear e hn; have HT := zH ht; have HB := zH hb; have HH := zH h; have hsz := hb.size; have hblt := ht.lt; obtain ⟨A2, n2, k2, rfl⟩ : ∃ A2 n2 k2, cv = .slice A2 n2 k2 := by obtain ⟨A2, k2, e, _⟩ := h.hcs; exact ⟨_, _, _, e⟩
 clear h ht hb; go_enter func16, ntmps16
 go_wp2_with (go_at_call 43; refine (pU (o := Gg) HH.o (bP zD) (HT.o.alloc _) (HB.o.alloc zO _) HN.o).mono ?_; rintro e w1 ⟨rfl, ht1, hk1⟩)
 go_end0
 exact ⟨rfl, by rw [HE.o]; exact ht1, ((bl.refl B b w).alloc HT.o.2 _).trans hk1⟩
theorem Ey (h : dH B b w0 nm cs ks cv A c C) {w : World} {ts : List Tx} (ht : bN B b ts w) (hb : Below w0.heap.size w0 w) (hn : aQ (ts ++ aV 10 nm n cs (ks.map aE))) :
  Calls prog 16 #[.pointer (some ⟨b, 0, none⟩), .agg #[.int .i64 10, .string (str nm), .int .i64 n, cv, .slice A ks.length c]] w (bk B b (ts ++ aV 10 nm n cs (ks.map aE)) w) := by
 have e : aV 10 nm n cs (ks.map aE) = eK ui (ks.map aE) := (by simp [aV]); have HE := zH e; have HN := zH (show aQ (ts ++ eK ui (ks.map aE)) by rw [e] at hn; exact hn); clear e hn; have HT := zH ht; have HB := zH hb; have HH := zH h; have hsz := hb.size; have hblt := ht.lt; obtain ⟨A2, n2, k2, rfl⟩ : ∃ A2 n2 k2, cv = .slice A2 n2 k2 := by obtain ⟨A2, k2, e, _⟩ := h.hcs; exact ⟨_, _, _, e⟩
 clear h ht hb; go_enter func16, ntmps16
 go_wp2_with (go_at_call 44; refine (kX (o := ui) HH.o (bP zD) (HT.o.alloc _) (HB.o.alloc zO _) HN.o).mono ?_; rintro e w1 ⟨rfl, ht1, hk1⟩)
 go_end0
 exact ⟨rfl, by rw [HE.o]; exact ht1, ((bl.refl B b w).alloc HT.o.2 _).trans hk1⟩
theorem Ew (h : dH B b w0 nm cs ks cv A c C) {w : World} {ts : List Tx} (ht : bN B b ts w) (hb : Below w0.heap.size w0 w) (hn : aQ (ts ++ aV 11 nm n cs (ks.map aE))) :
  Calls prog 16 #[.pointer (some ⟨b, 0, none⟩), .agg #[.int .i64 11, .string (str nm), .int .i64 n, cv, .slice A ks.length c]] w (bk B b (ts ++ aV 11 nm n cs (ks.map aE)) w) := by
 have e : aV 11 nm n cs (ks.map aE) = pw nm cs (ks.map aE) := (by simp [aV]); have HE := zH e; have HN := zH (show aQ (ts ++ pw nm cs (ks.map aE)) by rw [e] at hn; exact hn); clear e hn; have HT := zH ht; have HB := zH hb; have HH := zH h; have hsz := hb.size; have hblt := ht.lt; obtain ⟨A2, n2, k2, rfl⟩ : ∃ A2 n2 k2, cv = .slice A2 n2 k2 := by obtain ⟨A2, k2, e, _⟩ := h.hcs; exact ⟨_, _, _, e⟩
 clear h ht hb; go_enter func16, ntmps16
 go_wp2_with (go_at_call 46; refine (C1 HH.o (HT.o.alloc _) (HB.o.alloc zO _) HN.o).mono ?_; rintro e w1 ⟨rfl, ht1, hk1⟩)
 go_end0
 exact ⟨rfl, by rw [HE.o]; exact ht1, ((bl.refl B b w).alloc HT.o.2 _).trans hk1⟩
theorem Eu (h : dH B b w0 nm cs ks cv A c C) {w : World} {ts : List Tx} (ht : bN B b ts w) (hb : Below w0.heap.size w0 w) (hn : aQ (ts ++ aV 12 nm n cs (ks.map aE))) :
  Calls prog 16 #[.pointer (some ⟨b, 0, none⟩), .agg #[.int .i64 12, .string (str nm), .int .i64 n, cv, .slice A ks.length c]] w (bk B b (ts ++ aV 12 nm n cs (ks.map aE)) w) := by
 have e : aV 12 nm n cs (ks.map aE) = nY tH nm cs (ks.map aE) := (by simp [aV]); have HE := zH e; have HN := zH (show aQ (ts ++ nY tH nm cs (ks.map aE)) by rw [e] at hn; exact hn); clear e hn; have HT := zH ht; have HB := zH hb; have HH := zH h; have hsz := hb.size; have hblt := ht.lt; obtain ⟨A2, n2, k2, rfl⟩ : ∃ A2 n2 k2, cv = .slice A2 n2 k2 := by obtain ⟨A2, k2, e, _⟩ := h.hcs; exact ⟨_, _, _, e⟩
 clear h ht hb; go_enter func16, ntmps16
 go_wp2_with (go_at_call 47; refine (xb (word := tH) HH.o (bP zD) (HT.o.alloc _) (HB.o.alloc zO _) HN.o).mono ?_; rintro e w1 ⟨rfl, ht1, hk1⟩)
 go_end0
 exact ⟨rfl, by rw [HE.o]; exact ht1, ((bl.refl B b w).alloc HT.o.2 _).trans hk1⟩
theorem Et (h : dH B b w0 nm cs ks cv A c C) {w : World} {ts : List Tx} (ht : bN B b ts w) (hb : Below w0.heap.size w0 w) (hn : aQ (ts ++ aV 13 nm n cs (ks.map aE))) :
  Calls prog 16 #[.pointer (some ⟨b, 0, none⟩), .agg #[.int .i64 13, .string (str nm), .int .i64 n, cv, .slice A ks.length c]] w (bk B b (ts ++ aV 13 nm n cs (ks.map aE)) w) := by
 have e : aV 13 nm n cs (ks.map aE) = nY tI nm cs (ks.map aE) := (by simp [aV]); have HE := zH e; have HN := zH (show aQ (ts ++ nY tI nm cs (ks.map aE)) by rw [e] at hn; exact hn); clear e hn; have HT := zH ht; have HB := zH hb; have HH := zH h; have hsz := hb.size; have hblt := ht.lt; obtain ⟨A2, n2, k2, rfl⟩ : ∃ A2 n2 k2, cv = .slice A2 n2 k2 := by obtain ⟨A2, k2, e, _⟩ := h.hcs; exact ⟨_, _, _, e⟩
 clear h ht hb; go_enter func16, ntmps16
 go_wp2_with (go_at_call 47; refine (xb (word := tI) HH.o (bP zD) (HT.o.alloc _) (HB.o.alloc zO _) HN.o).mono ?_; rintro e w1 ⟨rfl, ht1, hk1⟩)
 go_end0
 exact ⟨rfl, by rw [HE.o]; exact ht1, ((bl.refl B b w).alloc HT.o.2 _).trans hk1⟩
theorem Es (h : dH B b w0 nm cs ks cv A c C) {w : World} {ts : List Tx} (ht : bN B b ts w) (hb : Below w0.heap.size w0 w) (hn : aQ (ts ++ aV 14 nm n cs (ks.map aE))) :
  Calls prog 16 #[.pointer (some ⟨b, 0, none⟩), .agg #[.int .i64 14, .string (str nm), .int .i64 n, cv, .slice A ks.length c]] w (bk B b (ts ++ aV 14 nm n cs (ks.map aE)) w) := by
 have e : aV 14 nm n cs (ks.map aE) = lr nm cs (ks.map aE) := (by simp [aV]); have HE := zH e; have HN := zH (show aQ (ts ++ lr nm cs (ks.map aE)) by rw [e] at hn; exact hn); clear e hn; have HT := zH ht; have HB := zH hb; have HH := zH h; have hsz := hb.size; have hblt := ht.lt; obtain ⟨A2, n2, k2, rfl⟩ : ∃ A2 n2 k2, cv = .slice A2 n2 k2 := by obtain ⟨A2, k2, e, _⟩ := h.hcs; exact ⟨_, _, _, e⟩
 clear h ht hb; go_enter func16, ntmps16
 go_wp2_with (go_at_call 48; refine (EZ HH.o (HT.o.alloc _) (HB.o.alloc zO _) HN.o).mono ?_; rintro e w1 ⟨rfl, ht1, hk1⟩)
 go_end0
 exact ⟨rfl, by rw [HE.o]; exact ht1, ((bl.refl B b w).alloc HT.o.2 _).trans hk1⟩
theorem Er (h : dH B b w0 nm cs ks cv A c C) {w : World} {ts : List Tx} (ht : bN B b ts w) (hb : Below w0.heap.size w0 w) (hn : aQ (ts ++ aV 15 nm n cs (ks.map aE))) :
  Calls prog 16 #[.pointer (some ⟨b, 0, none⟩), .agg #[.int .i64 15, .string (str nm), .int .i64 n, cv, .slice A ks.length c]] w (bk B b (ts ++ aV 15 nm n cs (ks.map aE)) w) := by
 have e : aV 15 nm n cs (ks.map aE) = eK tW (ks.map aE) := (by simp [aV]); have HE := zH e; have HN := zH (show aQ (ts ++ eK tW (ks.map aE)) by rw [e] at hn; exact hn); clear e hn; have HT := zH ht; have HB := zH hb; have HH := zH h; have hsz := hb.size; have hblt := ht.lt; obtain ⟨A2, n2, k2, rfl⟩ : ∃ A2 n2 k2, cv = .slice A2 n2 k2 := by obtain ⟨A2, k2, e, _⟩ := h.hcs; exact ⟨_, _, _, e⟩
 clear h ht hb; go_enter func16, ntmps16
 go_wp2_with (go_at_call 44; refine (kX (o := tW) HH.o (bP zD) (HT.o.alloc _) (HB.o.alloc zO _) HN.o).mono ?_; rintro e w1 ⟨rfl, ht1, hk1⟩)
 go_end0
 exact ⟨rfl, by rw [HE.o]; exact ht1, ((bl.refl B b w).alloc HT.o.2 _).trans hk1⟩
theorem Hj (h : dH B b w0 nm cs ks cv A c C) {w : World} {ts : List Tx} (ht : bN B b ts w) (hb : Below w0.heap.size w0 w) (hn : aQ (ts ++ aV 3 nm n cs (ks.map aE))) :
  Calls prog 16 #[.pointer (some ⟨b, 0, none⟩), .agg #[.int .i64 3, .string (str nm), .int .i64 n, cv, .slice A ks.length c]] w (bk B b (ts ++ aV 3 nm n cs (ks.map aE)) w) := by
 have e : aV 3 nm n cs (ks.map aE) = [(str nm : ByteArray).data.toList] := (by simp [aV, aZ]); have HE := zH e; have HN := zH (show aQ (ts ++ [(str nm : ByteArray).data.toList]) by rw [e] at hn; exact hn); clear e hn; have HT := zH ht; have HB := zH hb; have HH := zH h; have hsz := hb.size; have hblt := ht.lt; obtain ⟨A2, n2, k2, rfl⟩ : ∃ A2 n2 k2, cv = .slice A2 n2 k2 := by obtain ⟨A2, k2, e, _⟩ := h.hcs; exact ⟨_, _, _, e⟩
 clear h ht hb; go_enter func16, ntmps16
 go_wp2_with (go_at_call 40; (with_reducible refine (eh (str nm) (HT.o.alloc _) HN.o HH.o.hnm (by simp)).mono ?_); rintro e w1 ⟨rfl, ht1, hk1⟩)
 go_end0
 exact ⟨rfl, by rw [HE.o]; exact ht1, ((bl.refl B b w).alloc HT.o.2 _).trans hk1⟩
theorem Hi (h : dH B b w0 nm cs ks cv A c C) {w : World} {ts : List Tx} (ht : bN B b ts w) (hb : Below w0.heap.size w0 w) (hn : aQ (ts ++ aV 4 nm n cs (ks.map aE))) :
  Calls prog 16 #[.pointer (some ⟨b, 0, none⟩), .agg #[.int .i64 4, .string (str nm), .int .i64 n, cv, .slice A ks.length c]] w (bk B b (ts ++ aV 4 nm n cs (ks.map aE)) w) := by
 have e : aV 4 nm n cs (ks.map aE) = [(str nm : ByteArray).data.toList] := (by simp [aV, aZ]); have HE := zH e; have HN := zH (show aQ (ts ++ [(str nm : ByteArray).data.toList]) by rw [e] at hn; exact hn); clear e hn; have HT := zH ht; have HB := zH hb; have HH := zH h; have hsz := hb.size; have hblt := ht.lt; obtain ⟨A2, n2, k2, rfl⟩ : ∃ A2 n2 k2, cv = .slice A2 n2 k2 := by obtain ⟨A2, k2, e, _⟩ := h.hcs; exact ⟨_, _, _, e⟩
 clear h ht hb; go_enter func16, ntmps16
 go_wp2_with (go_at_call 40; (with_reducible refine (eh (str nm) (HT.o.alloc _) HN.o HH.o.hnm (by simp)).mono ?_); rintro e w1 ⟨rfl, ht1, hk1⟩)
 go_end0
 exact ⟨rfl, by rw [HE.o]; exact ht1, ((bl.refl B b w).alloc HT.o.2 _).trans hk1⟩
theorem Hl (h : dH B b w0 nm cs ks cv A c C) (hi : gY n) (htab : Tab w0) {w : World} {ts : List Tx} (ht : bN B b ts w) (hb : Below w0.heap.size w0 w) (hn : aQ (ts ++ aV 1 nm n cs (ks.map aE))) :
  Calls prog 16 #[.pointer (some ⟨b, 0, none⟩), .agg #[.int .i64 1, .string (str nm), .int .i64 n, cv, .slice A ks.length c]] w (bk B b (ts ++ aV 1 nm n cs (ks.map aE)) w) := by
 have e : aV 1 nm n cs (ks.map aE) = [(str (Lib.itoa n) : ByteArray).data.toList] := (by simp [aV, aZ]); have HE := zH e; have HN := zH (show aQ (ts ++ [(str (Lib.itoa n) : ByteArray).data.toList]) by rw [e] at hn; exact hn); have HL := zH (show (str (Lib.itoa n)).size <= maxLen by have := Lib.itoa_length_le n hi.1 hi.2; rw [fX]; unfold maxLen; omega); have HI := zH hi; have HTB := zH htab; clear e hn hi htab; have HT := zH ht; have HB := zH hb; have HH := zH h; have hsz := hb.size; have hblt := ht.lt; obtain ⟨A2, n2, k2, rfl⟩ : ∃ A2 n2 k2, cv = .slice A2 n2 k2 := by obtain ⟨A2, k2, e, _⟩ := h.hcs; exact ⟨_, _, _, e⟩
 clear h ht hb; go_enter func16, ntmps16
 go_wp2_with (first
  | (go_at_call 41; refine (yO n HI.o _ (HTB.o.under (HB.o.alloc zO _))).mono ?_; rintro e w1 ⟨rfl, hb1⟩; have HT1 := zH ((HT.o.alloc _).under hb1); have HK1 := zH (((bl.refl B b w).alloc HT.o.2 (.cells #[.int .i64 1, .string (str nm), .int .i64 n, .slice A2 n2 k2, .slice A ks.length c] 39)).trans (bl.same (HT.o.alloc _).2 hb1)); clear hb1)
  | (go_at_call 40; with_reducible refine (eh (str (Lib.itoa n)) HT1.o HN.o HL.o rfl).mono ?_
     rintro e w2 ⟨rfl, ht2, hk2⟩))
 go_end0
 exact ⟨rfl, by rw [HE.o]; exact ht2, HK1.o.trans hk2⟩
theorem Hk (h : dH B b w0 nm cs ks cv A c C) {w : World} {ts : List Tx} (ht : bN B b ts w) (hb : Below w0.heap.size w0 w) (hn : aQ (ts ++ aV 2 nm n cs (ks.map aE))) :
  Calls prog 16 #[.pointer (some ⟨b, 0, none⟩), .agg #[.int .i64 2, .string (str nm), .int .i64 n, cv, .slice A ks.length c]] w (bk B b (ts ++ aV 2 nm n cs (ks.map aE)) w) := by
 obtain ⟨q, hq⟩ : ∃ q : Bool, q = decide (n = 1) := ⟨_, rfl⟩; have e : aV 2 nm n cs (ks.map aE) = [(str (if q then rE else nU) : ByteArray).data.toList] := (by simp [aV, aZ, hq]); have HE := zH e; have HN := zH (show aQ (ts ++ [(str (if q then rE else nU) : ByteArray).data.toList]) by rw [e] at hn; exact hn); have HL := zH (show (str (if q then rE else nU)).size <= maxLen by cases q <;> exact bP zD)
 have hq' : (n == 1) = q := (by rw [hq]; by_cases h : n = 1 <;> simp [h])
 clear e hn; clear hq; have HT := zH ht; have HB := zH hb; have HH := zH h; have hsz := hb.size; have hblt := ht.lt; obtain ⟨A2, n2, k2, rfl⟩ : ∃ A2 n2 k2, cv = .slice A2 n2 k2 := by obtain ⟨A2, k2, e, _⟩ := h.hcs; exact ⟨_, _, _, e⟩
 clear h ht hb; go_enter func16, ntmps16
 go_wp2_with (first
  | (go_at_call 42; refine (wa q _).mono ?_; rintro e w1 ⟨rfl, rfl⟩)
  | (go_at_call 40; with_reducible refine (eh (str (if q then rE else nU)) (HT.o.alloc _) HN.o HL.o (by simp)).mono ?_
     rintro e w2 ⟨rfl, ht2, hk2⟩))
 all_goals go_end0
 all_goals exact ⟨rfl, by rw [HE.o]; exact ht2, ((bl.refl B b w).alloc HT.o.2 _).trans hk2⟩
theorem Ep (h : dH B b w0 nm cs ks cv A c C) {op : Int} (h1 : op ≠ 1) (h2 : op ≠ 2) (h3 : op ≠ 3) (h4 : op ≠ 4) (h5 : op ≠ 5) (h6 : op ≠ 6) (h7 : op ≠ 7) (h8 : op ≠ 8) (h9 : op ≠ 9) (h10 : op ≠ 10) (h11 : op ≠ 11) (h12 : op ≠ 12) (h13 : op ≠ 13) (h14 : op ≠ 14) (h15 : op ≠ 15) {w : World} {ts : List Tx} (ht : bN B b ts w) (hb : Below w0.heap.size w0 w) (hn : aQ (ts ++ aV op nm n cs (ks.map aE))) :
  Calls prog 16 #[.pointer (some ⟨b, 0, none⟩), .agg #[.int .i64 op, .string (str nm), .int .i64 n, cv, .slice A ks.length c]] w (bk B b (ts ++ aV op nm n cs (ks.map aE)) w) := by
 have e : aV op nm n cs (ks.map aE) = [(⟨#[63]⟩ : ByteArray).data.toList] := (by simp [aV, *]); have HE := zH e; have HN := zH (show aQ (ts ++ [(⟨#[63]⟩ : ByteArray).data.toList]) by rw [e] at hn; exact hn); clear e hn; have HT := zH ht; have HB := zH hb; have HH := zH h; have hsz := hb.size; have hblt := ht.lt; obtain ⟨A2, n2, k2, rfl⟩ : ∃ A2 n2 k2, cv = .slice A2 n2 k2 := by obtain ⟨A2, k2, e, _⟩ := h.hcs; exact ⟨_, _, _, e⟩
 clear h ht hb; go_enter func16, ntmps16
 go_wp2_with (go_at_call 40; (with_reducible refine (eh (⟨#[63]⟩) (HT.o.alloc _) HN.o (bP zD) (by simp)).mono ?_); rintro e w1 ⟨rfl, ht1, hk1⟩)
 go_end0
 exact ⟨rfl, by rw [HE.o]; exact ht1, ((bl.refl B b w).alloc HT.o.2 _).trans hk1⟩
end
theorem Cn {B b : Nat} {w0 : World} (hB : w0.heap.size <= B) (htab : Tab w0) {L : List Value} {x : Ex} (h : a7 w0 L x) : IL B b w0 L x := by
 induction h with
 | @mk op nm n cs ks cv A c C hop hnm hn hcs hl hc hk hx ih =>
   intro w ts ht hb hs; have HN : dH B b w0 nm cs ks cv A c C := ⟨hB, hnm, hcs, hl, hc, hk, hx, ih⟩; rw [Db] at hs ⊢; rcases DI op with rfl | rfl | rfl | rfl | rfl | rfl | rfl | rfl | rfl | rfl | rfl | rfl | rfl | rfl | rfl | ⟨h1, h2, h3, h4, h5, h6, h7, h8, h9, h10, h11, h12, h13, h14, h15⟩
   . exact Hl HN hn htab ht hb hs
   . exact Hk HN ht hb hs
   . exact Hj HN ht hb hs
   . exact Hi HN ht hb hs
   . exact Hh HN ht hb hs
   . exact Hg HN ht hb hs
   . exact Hf HN ht hb hs
   . exact He HN ht hb hs
   . exact Hd HN ht hb hs
   . exact Ey HN ht hb hs
   . exact Ew HN ht hb hs
   . exact Eu HN ht hb hs
   . exact Et HN ht hb hs
   . exact Es HN ht hb hs
   . exact Er HN ht hb hs
   . exact Ep HN h1 h2 h3 h4 h5 h6 h7 h8 h9 h10 h11 h12 h13 h14 h15 ht hb hs
def Ft (x : Ex) (w : World) (e : Ending) (w' : World) : Prop := e = .returned (.string (str (jO (aE x)))) /\ Below w.heap.size w w'
theorem Dm {w0 : World} (htab : Tab w0) {x : Ex} {L : List Value} (hL : a7 w0 L x) (hs : aQ (aE x)) {w : World} (hb : Below w0.heap.size w0 w) :
  Calls prog 8 #[.agg L.toArray] w (Ft x w) := by
 have hsz := hb.size; have HI := zH (Cn (B := w.heap.size + 1) (b := w.heap.size + 1) zO htab hL); have HS := zH hs; obtain ⟨o1, s1, n1, A1, m1, k1, A2, m2, k2, rfl⟩ := hL.shape; have ht0 := xt (w.alloc (.cells #[.int .i64 o1, .string s1, .int .i64 n1, .slice A1 m1 k1, .slice A2 m2 k2] 39)); rw [World.size_alloc] at ht0; have HT0 := zH (show bN (w.heap.size + 1) (w.heap.size + 1) [] _ from ⟨ht0, by simp⟩); have HB := zH (hb.alloc hsz (.cells #[.int .i64 o1, .string s1, .int .i64 n1, .slice A1 m1 k1, .slice A2 m2 k2] 39)); clear ht0; clear hb hs htab hL; go_enter func8, ntmps8
 go_wp2_with (first
  | (go_at_call 16; refine (HI.o _ [] HT0.o (HB.o.alloc (by simp; omega) _) HS.o).mono ?_; rintro e w1 ⟨rfl, ht1, hk1⟩)
  | (go_at_call 17; refine (Bh _ _ _ _ _ ht1.1 ht1.2).mono ?_; rintro e w2 ⟨rfl, hb2⟩))
 go_ret; exact ⟨by rw [<- xW]; rfl, ((((Below.refl _ w).alloc (Nat.le_refl _) _).alloc (by simp) _).trans ((hk1.below.trans hb2).mono (by simp)))⟩
end Go.Proofs.YtkfacdofkfabnaaGreatDoor
