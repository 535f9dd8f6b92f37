import Derived.Lib.AppendIntMem
import Derived.Lib.BufferKept
import Derived.Lib.ItoaLen
import Derived.Lib.LaidTab
import Derived.Lib.QuietBelow
import Derived.Shelf.Small.Wraps
import Derived.Shelf.Strconv.Itoa4
import Derived.Test.YtdcjlihaldhhjaaGreatDoorKm13
set_option maxHeartbeats 1000000
set_option maxRecDepth 100000
namespace Go.Proofs.YtdcjlihaldhhjaaGreatDoor
open _root_.Go.Proofs.Tryz
open Go.RowKit
def Tab (w : World) : Prop := Lib.TabIs prog w "internal/strconv.uint64pow10" .u64 Lib.pow10Tab
theorem Tab.under {w w' : World} (h : Tab w) (hb : Below w.heap.size w w') : Tab w' := by
 unfold Tab Lib.TabIs World.var? at h ⊢; cases hg : prog.globalNamed "internal/strconv.uint64pow10" with
 | none => rw [hg] at h; cases h
 | some g =>
   rw [hg] at h; simp only [Option.bind_some] at h ⊢; have hlt : g < w.heap.size := by
    rcases Nat.lt_or_ge g w.heap.size with h' | h'
    . exact h'
    . rw [Array.getElem?_eq_none h'] at h; cases h
   rw [hb.block g hlt]; exact h
theorem vM (n : Int) (h : gQ n) (w : World) (ht : Tab w) : Calls prog 44 #[.int .i64 n, .int .i64 10] w λ e w' => e = .returned (.string (str (Lib.itoa n))) /\ Below w.heap.size w w' :=
 (Any.strconv_FormatInt_10 laysM173 n h.1 h.2 w ht).mono λ _ _ ⟨h1, k, os, h2⟩ => ⟨h1, by rw [h2]; exact Lib.below_grow _ _ (Nat.le_refl _) _ _⟩
theorem tO (b : Bool) (w : World) : Calls prog 45 #[.bool b] w λ e w' => e = .returned (.string (str (if b then pS else l6))) /\ w = w' :=
 (Any.strconv_FormatBool lays121 b w).mono λ _ _ ⟨h1, h2⟩ => ⟨by rw [h1]; cases b <;> rfl, h2.symm⟩
theorem oQ {w w' : World} (h : Below w.heap.size w w') (row : Option Nat) : w.grownBy w' row := ⟨h.os, h.tape, h.output, h.size, λ k hk _ => h.block k hk⟩
theorem cL.under {B b : Nat} {p : Value} {bs : List Value} {g : Bool} {w w' : World} (h : cL B b p bs g w) (hb : Below w.heap.size w w') : cL B b p bs g w' := by
 have hlt := h.lt; obtain ⟨hB, v, hbk, hown, hne⟩ := h; exact ⟨hB, v, (hb.block b hlt).trans hbk, hown.kept (oQ hb none) (by cases hv : v.ownBlock <;> simp), hne⟩
theorem bl.under {B b : Nat} {ts : List Tx} {w w' : World} (h : bl B b ts w) (hb : Below w.heap.size w w') : bl B b ts w' :=
 ⟨h.1.elim (λ x => .inl (x.under hb)) (λ x => .inr (x.under hb)), Nat.le_trans h.2 hb.size⟩
theorem a8.same {B b : Nat} {w w' : World} (hB : B <= w.heap.size) (hb : Below w.heap.size w w') : a8 B b w w' := ⟨hb.mono hB, (Lib.OthersKept.refl _ _ w).below hb⟩
theorem Ax (op : Int) : op = 1 ∨ op = 2 ∨ op = 3 ∨ op = 4 ∨ op = 5 ∨ op = 6 ∨ op = 7 ∨ op = 8 ∨ op = 9 ∨ op = 10 ∨ op = 11 ∨ op = 12 ∨ op = 13 ∨ op = 14 ∨ op = 15 ∨ (op ≠ 1 /\ op ≠ 2 /\ op ≠ 3 /\ op ≠ 4 /\ op ≠ 5 /\ op ≠ 6 /\ op ≠ 7 /\ op ≠ 8 /\ op ≠ 9 /\ op ≠ 10 /\ op ≠ 11 /\ op ≠ 12 /\ op ≠ 13 /\ op ≠ 14 /\ op ≠ 15) := by omega
section
variable {B b : Nat} {w0 : World} {n : Int} {nm : Tx} {cs : List Tx} {ks : List Ex} {cv : Value} {A : Option Addr} {c : Nat} {C : Nat -> List Value}
theorem DG (h : dd B b w0 nm cs ks cv A c C) {w : World} {ts : List Tx} (ht : bl B b ts w) (hb : Below w0.heap.size w0 w) (hn : aM (ts ++ aR 5 nm n cs (ks.map aA))) :
  Calls prog 19 #[.pointer (some ⟨b, 0, none⟩), .agg #[.int .i64 5, .string (str nm), .int .i64 n, cv, .slice A ks.length c]] w (a7 B b (ts ++ aR 5 nm n cs (ks.map aA)) w) := by
 have e : aR 5 nm n cs (ks.map aA) = fc nm (ks.map aA) := (by simp [aR]); have HE := zH e; have HN := zH (show aM (ts ++ fc nm (ks.map aA)) by rw [e] at hn; exact hn); clear e hn; have HT := zH ht; have HB := zH hb; have HH := zH h; have hsz := hb.size; have hblt := ht.lt; obtain ⟨A2, n2, k2, rfl⟩ : ∃ A2 n2 k2, cv = .slice A2 n2 k2 := by obtain ⟨A2, k2, e, _⟩ := h.hcs; exact ⟨_, _, _, e⟩
 clear h ht hb; go_enter func19, ntmps19
 go_wp2_with (go_at_call 46; refine (oo HH.o HH.o.hnm (HT.o.alloc _) (HB.o.alloc zO _) HN.o).mono ?_; rintro e w1 ⟨rfl, ht1, hk1⟩)
 go_end0
 exact ⟨rfl, by rw [HE.o]; exact ht1, ((a8.refl B b w).alloc HT.o.2 _).trans hk1⟩
theorem DF (h : dd B b w0 nm cs ks cv A c C) {w : World} {ts : List Tx} (ht : bl B b ts w) (hb : Below w0.heap.size w0 w) (hn : aM (ts ++ aR 6 nm n cs (ks.map aA))) :
  Calls prog 19 #[.pointer (some ⟨b, 0, none⟩), .agg #[.int .i64 6, .string (str nm), .int .i64 n, cv, .slice A ks.length c]] w (a7 B b (ts ++ aR 6 nm n cs (ks.map aA)) w) := by
 have e : aR 6 nm n cs (ks.map aA) = dS nm (ks.map aA) := (by simp [aR]); have HE := zH e; have HN := zH (show aM (ts ++ dS nm (ks.map aA)) by rw [e] at hn; exact hn); clear e hn; have HT := zH ht; have HB := zH hb; have HH := zH h; have hsz := hb.size; have hblt := ht.lt; obtain ⟨A2, n2, k2, rfl⟩ : ∃ A2 n2 k2, cv = .slice A2 n2 k2 := by obtain ⟨A2, k2, e, _⟩ := h.hcs; exact ⟨_, _, _, e⟩
 clear h ht hb; go_enter func19, ntmps19
 go_wp2_with (go_at_call 47; refine (jA HH.o HH.o.hnm (HT.o.alloc _) (HB.o.alloc zO _) HN.o).mono ?_; rintro e w1 ⟨rfl, ht1, hk1⟩)
 go_end0
 exact ⟨rfl, by rw [HE.o]; exact ht1, ((a8.refl B b w).alloc HT.o.2 _).trans hk1⟩
theorem DE (h : dd B b w0 nm cs ks cv A c C) {w : World} {ts : List Tx} (ht : bl B b ts w) (hb : Below w0.heap.size w0 w) (hn : aM (ts ++ aR 7 nm n cs (ks.map aA))) :
  Calls prog 19 #[.pointer (some ⟨b, 0, none⟩), .agg #[.int .i64 7, .string (str nm), .int .i64 n, cv, .slice A ks.length c]] w (a7 B b (ts ++ aR 7 nm n cs (ks.map aA)) w) := by
 have e : aR 7 nm n cs (ks.map aA) = ir (ks.map aA) := (by simp [aR]); have HE := zH e; have HN := zH (show aM (ts ++ ir (ks.map aA)) by rw [e] at hn; exact hn); clear e hn; have HT := zH ht; have HB := zH hb; have HH := zH h; have hsz := hb.size; have hblt := ht.lt; obtain ⟨A2, n2, k2, rfl⟩ : ∃ A2 n2 k2, cv = .slice A2 n2 k2 := by obtain ⟨A2, k2, e, _⟩ := h.hcs; exact ⟨_, _, _, e⟩
 clear h ht hb; go_enter func19, ntmps19
 go_wp2_with (go_at_call 48; refine (vZ HH.o (HT.o.alloc _) (HB.o.alloc zO _) HN.o).mono ?_; rintro e w1 ⟨rfl, ht1, hk1⟩)
 go_end0
 exact ⟨rfl, by rw [HE.o]; exact ht1, ((a8.refl B b w).alloc HT.o.2 _).trans hk1⟩
theorem DD (h : dd B b w0 nm cs ks cv A c C) {w : World} {ts : List Tx} (ht : bl B b ts w) (hb : Below w0.heap.size w0 w) (hn : aM (ts ++ aR 8 nm n cs (ks.map aA))) :
  Calls prog 19 #[.pointer (some ⟨b, 0, none⟩), .agg #[.int .i64 8, .string (str nm), .int .i64 n, cv, .slice A ks.length c]] w (a7 B b (ts ++ aR 8 nm n cs (ks.map aA)) w) := by
 have e : aR 8 nm n cs (ks.map aA) = dS DB (ks.map aA) := (by simp [aR]); have HE := zH e; have HN := zH (show aM (ts ++ dS DB (ks.map aA)) by rw [e] at hn; exact hn); clear e hn; have HT := zH ht; have HB := zH hb; have HH := zH h; have hsz := hb.size; have hblt := ht.lt; obtain ⟨A2, n2, k2, rfl⟩ : ∃ A2 n2 k2, cv = .slice A2 n2 k2 := by obtain ⟨A2, k2, e, _⟩ := h.hcs; exact ⟨_, _, _, e⟩
 clear h ht hb; go_enter func19, ntmps19
 go_wp2_with (go_at_call 47; refine (jA (o := DB) HH.o (bu zD) (HT.o.alloc _) (HB.o.alloc zO _) HN.o).mono ?_; rintro e w1 ⟨rfl, ht1, hk1⟩)
 go_end0
 exact ⟨rfl, by rw [HE.o]; exact ht1, ((a8.refl B b w).alloc HT.o.2 _).trans hk1⟩
theorem DC (h : dd B b w0 nm cs ks cv A c C) {w : World} {ts : List Tx} (ht : bl B b ts w) (hb : Below w0.heap.size w0 w) (hn : aM (ts ++ aR 9 nm n cs (ks.map aA))) :
  Calls prog 19 #[.pointer (some ⟨b, 0, none⟩), .agg #[.int .i64 9, .string (str nm), .int .i64 n, cv, .slice A ks.length c]] w (a7 B b (ts ++ aR 9 nm n cs (ks.map aA)) w) := by
 have e : aR 9 nm n cs (ks.map aA) = fc CW (ks.map aA) := (by simp [aR]); have HE := zH e; have HN := zH (show aM (ts ++ fc CW (ks.map aA)) by rw [e] at hn; exact hn); clear e hn; have HT := zH ht; have HB := zH hb; have HH := zH h; have hsz := hb.size; have hblt := ht.lt; obtain ⟨A2, n2, k2, rfl⟩ : ∃ A2 n2 k2, cv = .slice A2 n2 k2 := by obtain ⟨A2, k2, e, _⟩ := h.hcs; exact ⟨_, _, _, e⟩
 clear h ht hb; go_enter func19, ntmps19
 go_wp2_with (go_at_call 46; refine (oo (o := CW) HH.o (bu zD) (HT.o.alloc _) (HB.o.alloc zO _) HN.o).mono ?_; rintro e w1 ⟨rfl, ht1, hk1⟩)
 go_end0
 exact ⟨rfl, by rw [HE.o]; exact ht1, ((a8.refl B b w).alloc HT.o.2 _).trans hk1⟩
theorem Br (h : dd B b w0 nm cs ks cv A c C) {w : World} {ts : List Tx} (ht : bl B b ts w) (hb : Below w0.heap.size w0 w) (hn : aM (ts ++ aR 10 nm n cs (ks.map aA))) :
  Calls prog 19 #[.pointer (some ⟨b, 0, none⟩), .agg #[.int .i64 10, .string (str nm), .int .i64 n, cv, .slice A ks.length c]] w (a7 B b (ts ++ aR 10 nm n cs (ks.map aA)) w) := by
 have e : aR 10 nm n cs (ks.map aA) = dS si (ks.map aA) := (by simp [aR]); have HE := zH e; have HN := zH (show aM (ts ++ dS si (ks.map aA)) by rw [e] at hn; exact hn); clear e hn; have HT := zH ht; have HB := zH hb; have HH := zH h; have hsz := hb.size; have hblt := ht.lt; obtain ⟨A2, n2, k2, rfl⟩ : ∃ A2 n2 k2, cv = .slice A2 n2 k2 := by obtain ⟨A2, k2, e, _⟩ := h.hcs; exact ⟨_, _, _, e⟩
 clear h ht hb; go_enter func19, ntmps19
 go_wp2_with (go_at_call 47; refine (jA (o := si) HH.o (bu zD) (HT.o.alloc _) (HB.o.alloc zO _) HN.o).mono ?_; rintro e w1 ⟨rfl, ht1, hk1⟩)
 go_end0
 exact ⟨rfl, by rw [HE.o]; exact ht1, ((a8.refl B b w).alloc HT.o.2 _).trans hk1⟩
theorem Bq (h : dd B b w0 nm cs ks cv A c C) {w : World} {ts : List Tx} (ht : bl B b ts w) (hb : Below w0.heap.size w0 w) (hn : aM (ts ++ aR 11 nm n cs (ks.map aA))) :
  Calls prog 19 #[.pointer (some ⟨b, 0, none⟩), .agg #[.int .i64 11, .string (str nm), .int .i64 n, cv, .slice A ks.length c]] w (a7 B b (ts ++ aR 11 nm n cs (ks.map aA)) w) := by
 have e : aR 11 nm n cs (ks.map aA) = nL nm cs (ks.map aA) := (by simp [aR]); have HE := zH e; have HN := zH (show aM (ts ++ nL nm cs (ks.map aA)) by rw [e] at hn; exact hn); clear e hn; have HT := zH ht; have HB := zH hb; have HH := zH h; have hsz := hb.size; have hblt := ht.lt; obtain ⟨A2, n2, k2, rfl⟩ : ∃ A2 n2 k2, cv = .slice A2 n2 k2 := by obtain ⟨A2, k2, e, _⟩ := h.hcs; exact ⟨_, _, _, e⟩
 clear h ht hb; go_enter func19, ntmps19
 go_wp2_with (go_at_call 49; refine (zC HH.o (HT.o.alloc _) (HB.o.alloc zO _) HN.o).mono ?_; rintro e w1 ⟨rfl, ht1, hk1⟩)
 go_end0
 exact ⟨rfl, by rw [HE.o]; exact ht1, ((a8.refl B b w).alloc HT.o.2 _).trans hk1⟩
theorem Bp (h : dd B b w0 nm cs ks cv A c C) {w : World} {ts : List Tx} (ht : bl B b ts w) (hb : Below w0.heap.size w0 w) (hn : aM (ts ++ aR 12 nm n cs (ks.map aA))) :
  Calls prog 19 #[.pointer (some ⟨b, 0, none⟩), .agg #[.int .i64 12, .string (str nm), .int .i64 n, cv, .slice A ks.length c]] w (a7 B b (ts ++ aR 12 nm n cs (ks.map aA)) w) := by
 have e : aR 12 nm n cs (ks.map aA) = mg rH nm cs (ks.map aA) := (by simp [aR]); have HE := zH e; have HN := zH (show aM (ts ++ mg rH nm cs (ks.map aA)) by rw [e] at hn; exact hn); clear e hn; have HT := zH ht; have HB := zH hb; have HH := zH h; have hsz := hb.size; have hblt := ht.lt; obtain ⟨A2, n2, k2, rfl⟩ : ∃ A2 n2 k2, cv = .slice A2 n2 k2 := by obtain ⟨A2, k2, e, _⟩ := h.hcs; exact ⟨_, _, _, e⟩
 clear h ht hb; go_enter func19, ntmps19
 go_wp2_with (go_at_call 50; refine (uh (word := rH) HH.o (bu zD) (HT.o.alloc _) (HB.o.alloc zO _) HN.o).mono ?_; rintro e w1 ⟨rfl, ht1, hk1⟩)
 go_end0
 exact ⟨rfl, by rw [HE.o]; exact ht1, ((a8.refl B b w).alloc HT.o.2 _).trans hk1⟩
theorem Bo (h : dd B b w0 nm cs ks cv A c C) {w : World} {ts : List Tx} (ht : bl B b ts w) (hb : Below w0.heap.size w0 w) (hn : aM (ts ++ aR 13 nm n cs (ks.map aA))) :
  Calls prog 19 #[.pointer (some ⟨b, 0, none⟩), .agg #[.int .i64 13, .string (str nm), .int .i64 n, cv, .slice A ks.length c]] w (a7 B b (ts ++ aR 13 nm n cs (ks.map aA)) w) := by
 have e : aR 13 nm n cs (ks.map aA) = mg rI nm cs (ks.map aA) := (by simp [aR]); have HE := zH e; have HN := zH (show aM (ts ++ mg rI nm cs (ks.map aA)) by rw [e] at hn; exact hn); clear e hn; have HT := zH ht; have HB := zH hb; have HH := zH h; have hsz := hb.size; have hblt := ht.lt; obtain ⟨A2, n2, k2, rfl⟩ : ∃ A2 n2 k2, cv = .slice A2 n2 k2 := by obtain ⟨A2, k2, e, _⟩ := h.hcs; exact ⟨_, _, _, e⟩
 clear h ht hb; go_enter func19, ntmps19
 go_wp2_with (go_at_call 50; refine (uh (word := rI) HH.o (bu zD) (HT.o.alloc _) (HB.o.alloc zO _) HN.o).mono ?_; rintro e w1 ⟨rfl, ht1, hk1⟩)
 go_end0
 exact ⟨rfl, by rw [HE.o]; exact ht1, ((a8.refl B b w).alloc HT.o.2 _).trans hk1⟩
theorem Bn (h : dd B b w0 nm cs ks cv A c C) {w : World} {ts : List Tx} (ht : bl B b ts w) (hb : Below w0.heap.size w0 w) (hn : aM (ts ++ aR 14 nm n cs (ks.map aA))) :
  Calls prog 19 #[.pointer (some ⟨b, 0, none⟩), .agg #[.int .i64 14, .string (str nm), .int .i64 n, cv, .slice A ks.length c]] w (a7 B b (ts ++ aR 14 nm n cs (ks.map aA)) w) := by
 have e : aR 14 nm n cs (ks.map aA) = jK nm cs (ks.map aA) := (by simp [aR]); have HE := zH e; have HN := zH (show aM (ts ++ jK nm cs (ks.map aA)) by rw [e] at hn; exact hn); clear e hn; have HT := zH ht; have HB := zH hb; have HH := zH h; have hsz := hb.size; have hblt := ht.lt; obtain ⟨A2, n2, k2, rfl⟩ : ∃ A2 n2 k2, cv = .slice A2 n2 k2 := by obtain ⟨A2, k2, e, _⟩ := h.hcs; exact ⟨_, _, _, e⟩
 clear h ht hb; go_enter func19, ntmps19
 go_wp2_with (go_at_call 51; refine (BO HH.o (HT.o.alloc _) (HB.o.alloc zO _) HN.o).mono ?_; rintro e w1 ⟨rfl, ht1, hk1⟩)
 go_end0
 exact ⟨rfl, by rw [HE.o]; exact ht1, ((a8.refl B b w).alloc HT.o.2 _).trans hk1⟩
theorem Bm (h : dd B b w0 nm cs ks cv A c C) {w : World} {ts : List Tx} (ht : bl B b ts w) (hb : Below w0.heap.size w0 w) (hn : aM (ts ++ aR 15 nm n cs (ks.map aA))) :
  Calls prog 19 #[.pointer (some ⟨b, 0, none⟩), .agg #[.int .i64 15, .string (str nm), .int .i64 n, cv, .slice A ks.length c]] w (a7 B b (ts ++ aR 15 nm n cs (ks.map aA)) w) := by
 have e : aR 15 nm n cs (ks.map aA) = dS rW (ks.map aA) := (by simp [aR]); have HE := zH e; have HN := zH (show aM (ts ++ dS rW (ks.map aA)) by rw [e] at hn; exact hn); clear e hn; have HT := zH ht; have HB := zH hb; have HH := zH h; have hsz := hb.size; have hblt := ht.lt; obtain ⟨A2, n2, k2, rfl⟩ : ∃ A2 n2 k2, cv = .slice A2 n2 k2 := by obtain ⟨A2, k2, e, _⟩ := h.hcs; exact ⟨_, _, _, e⟩
 clear h ht hb; go_enter func19, ntmps19
 go_wp2_with (go_at_call 47; refine (jA (o := rW) HH.o (bu zD) (HT.o.alloc _) (HB.o.alloc zO _) HN.o).mono ?_; rintro e w1 ⟨rfl, ht1, hk1⟩)
 go_end0
 exact ⟨rfl, by rw [HE.o]; exact ht1, ((a8.refl B b w).alloc HT.o.2 _).trans hk1⟩
theorem DI (h : dd B b w0 nm cs ks cv A c C) {w : World} {ts : List Tx} (ht : bl B b ts w) (hb : Below w0.heap.size w0 w) (hn : aM (ts ++ aR 3 nm n cs (ks.map aA))) :
  Calls prog 19 #[.pointer (some ⟨b, 0, none⟩), .agg #[.int .i64 3, .string (str nm), .int .i64 n, cv, .slice A ks.length c]] w (a7 B b (ts ++ aR 3 nm n cs (ks.map aA)) w) := by
 have e : aR 3 nm n cs (ks.map aA) = [(str nm : ByteArray).data.toList] := (by simp [aR, aV]); have HE := zH e; have HN := zH (show aM (ts ++ [(str nm : ByteArray).data.toList]) by rw [e] at hn; exact hn); clear e hn; have HT := zH ht; have HB := zH hb; have HH := zH h; have hsz := hb.size; have hblt := ht.lt; obtain ⟨A2, n2, k2, rfl⟩ : ∃ A2 n2 k2, cv = .slice A2 n2 k2 := by obtain ⟨A2, k2, e, _⟩ := h.hcs; exact ⟨_, _, _, e⟩
 clear h ht hb; go_enter func19, ntmps19
 go_wp2_with (go_at_call 43; (with_reducible refine (dy (str nm) (HT.o.alloc _) HN.o HH.o.hnm (by simp)).mono ?_); rintro e w1 ⟨rfl, ht1, hk1⟩)
 go_end0
 exact ⟨rfl, by rw [HE.o]; exact ht1, ((a8.refl B b w).alloc HT.o.2 _).trans hk1⟩
theorem DH (h : dd B b w0 nm cs ks cv A c C) {w : World} {ts : List Tx} (ht : bl B b ts w) (hb : Below w0.heap.size w0 w) (hn : aM (ts ++ aR 4 nm n cs (ks.map aA))) :
  Calls prog 19 #[.pointer (some ⟨b, 0, none⟩), .agg #[.int .i64 4, .string (str nm), .int .i64 n, cv, .slice A ks.length c]] w (a7 B b (ts ++ aR 4 nm n cs (ks.map aA)) w) := by
 have e : aR 4 nm n cs (ks.map aA) = [(str nm : ByteArray).data.toList] := (by simp [aR, aV]); have HE := zH e; have HN := zH (show aM (ts ++ [(str nm : ByteArray).data.toList]) by rw [e] at hn; exact hn); clear e hn; have HT := zH ht; have HB := zH hb; have HH := zH h; have hsz := hb.size; have hblt := ht.lt; obtain ⟨A2, n2, k2, rfl⟩ : ∃ A2 n2 k2, cv = .slice A2 n2 k2 := by obtain ⟨A2, k2, e, _⟩ := h.hcs; exact ⟨_, _, _, e⟩
 clear h ht hb; go_enter func19, ntmps19
 go_wp2_with (go_at_call 43; (with_reducible refine (dy (str nm) (HT.o.alloc _) HN.o HH.o.hnm (by simp)).mono ?_); rintro e w1 ⟨rfl, ht1, hk1⟩)
 go_end0
 exact ⟨rfl, by rw [HE.o]; exact ht1, ((a8.refl B b w).alloc HT.o.2 _).trans hk1⟩
theorem DK (h : dd B b w0 nm cs ks cv A c C) (hi : gQ n) (htab : Tab w0) {w : World} {ts : List Tx} (ht : bl B b ts w) (hb : Below w0.heap.size w0 w) (hn : aM (ts ++ aR 1 nm n cs (ks.map aA))) :
  Calls prog 19 #[.pointer (some ⟨b, 0, none⟩), .agg #[.int .i64 1, .string (str nm), .int .i64 n, cv, .slice A ks.length c]] w (a7 B b (ts ++ aR 1 nm n cs (ks.map aA)) w) := by
 have e : aR 1 nm n cs (ks.map aA) = [(str (Lib.itoa n) : ByteArray).data.toList] := (by simp [aR, aV]); have HE := zH e; have HN := zH (show aM (ts ++ [(str (Lib.itoa n) : ByteArray).data.toList]) by rw [e] at hn; exact hn); have HL := zH (show (str (Lib.itoa n)).size <= maxLen by have := Lib.itoa_length_le n hi.1 hi.2; rw [fS]; unfold maxLen; omega); have HI := zH hi; have HTB := zH htab; clear e hn hi htab; have HT := zH ht; have HB := zH hb; have HH := zH h; have hsz := hb.size; have hblt := ht.lt; obtain ⟨A2, n2, k2, rfl⟩ : ∃ A2 n2 k2, cv = .slice A2 n2 k2 := by obtain ⟨A2, k2, e, _⟩ := h.hcs; exact ⟨_, _, _, e⟩
 clear h ht hb; go_enter func19, ntmps19
 go_wp2_with (first
  | (go_at_call 44; refine (vM n HI.o _ (HTB.o.under (HB.o.alloc zO _))).mono ?_; rintro e w1 ⟨rfl, hb1⟩; have HT1 := zH ((HT.o.alloc _).under hb1); have HK1 := zH (((a8.refl B b w).alloc HT.o.2 (.cells #[.int .i64 1, .string (str nm), .int .i64 n, .slice A2 n2 k2, .slice A ks.length c] 25)).trans (a8.same (HT.o.alloc _).2 hb1)); clear hb1)
  | (go_at_call 43; with_reducible refine (dy (str (Lib.itoa n)) HT1.o HN.o HL.o rfl).mono ?_
     rintro e w2 ⟨rfl, ht2, hk2⟩))
 go_end0
 exact ⟨rfl, by rw [HE.o]; exact ht2, HK1.o.trans hk2⟩
theorem DJ (h : dd B b w0 nm cs ks cv A c C) {w : World} {ts : List Tx} (ht : bl B b ts w) (hb : Below w0.heap.size w0 w) (hn : aM (ts ++ aR 2 nm n cs (ks.map aA))) :
  Calls prog 19 #[.pointer (some ⟨b, 0, none⟩), .agg #[.int .i64 2, .string (str nm), .int .i64 n, cv, .slice A ks.length c]] w (a7 B b (ts ++ aR 2 nm n cs (ks.map aA)) w) := by
 obtain ⟨q, hq⟩ : ∃ q : Bool, q = decide (n = 1) := ⟨_, rfl⟩; have e : aR 2 nm n cs (ks.map aA) = [(str (if q then pS else l6) : ByteArray).data.toList] := (by simp [aR, aV, hq]); have HE := zH e; have HN := zH (show aM (ts ++ [(str (if q then pS else l6) : ByteArray).data.toList]) by rw [e] at hn; exact hn); have HL := zH (show (str (if q then pS else l6)).size <= maxLen by cases q <;> exact bu zD)
 have hq' : (n == 1) = q := (by rw [hq]; by_cases h : n = 1 <;> simp [h])
 clear e hn; clear hq; have HT := zH ht; have HB := zH hb; have HH := zH h; have hsz := hb.size; have hblt := ht.lt; obtain ⟨A2, n2, k2, rfl⟩ : ∃ A2 n2 k2, cv = .slice A2 n2 k2 := by obtain ⟨A2, k2, e, _⟩ := h.hcs; exact ⟨_, _, _, e⟩
 clear h ht hb; go_enter func19, ntmps19
 go_wp2_with (first
  | (go_at_call 45; refine (tO q _).mono ?_; rintro e w1 ⟨rfl, rfl⟩)
  | (go_at_call 43; with_reducible refine (dy (str (if q then pS else l6)) (HT.o.alloc _) HN.o HL.o (by simp)).mono ?_
     rintro e w2 ⟨rfl, ht2, hk2⟩))
 all_goals go_end0
 all_goals exact ⟨rfl, by rw [HE.o]; exact ht2, ((a8.refl B b w).alloc HT.o.2 _).trans hk2⟩
theorem Bl (h : dd B b w0 nm cs ks cv A c C) {op : Int} (h1 : op ≠ 1) (h2 : op ≠ 2) (h3 : op ≠ 3) (h4 : op ≠ 4) (h5 : op ≠ 5) (h6 : op ≠ 6) (h7 : op ≠ 7) (h8 : op ≠ 8) (h9 : op ≠ 9) (h10 : op ≠ 10) (h11 : op ≠ 11) (h12 : op ≠ 12) (h13 : op ≠ 13) (h14 : op ≠ 14) (h15 : op ≠ 15) {w : World} {ts : List Tx} (ht : bl B b ts w) (hb : Below w0.heap.size w0 w) (hn : aM (ts ++ aR op nm n cs (ks.map aA))) :
  Calls prog 19 #[.pointer (some ⟨b, 0, none⟩), .agg #[.int .i64 op, .string (str nm), .int .i64 n, cv, .slice A ks.length c]] w (a7 B b (ts ++ aR op nm n cs (ks.map aA)) w) := by
 have e : aR op nm n cs (ks.map aA) = [(⟨#[63]⟩ : ByteArray).data.toList] := (by simp [aR, *]); have HE := zH e; have HN := zH (show aM (ts ++ [(⟨#[63]⟩ : ByteArray).data.toList]) by rw [e] at hn; exact hn); clear e hn; have HT := zH ht; have HB := zH hb; have HH := zH h; have hsz := hb.size; have hblt := ht.lt; obtain ⟨A2, n2, k2, rfl⟩ : ∃ A2 n2 k2, cv = .slice A2 n2 k2 := by obtain ⟨A2, k2, e, _⟩ := h.hcs; exact ⟨_, _, _, e⟩
 clear h ht hb; go_enter func19, ntmps19
 go_wp2_with (go_at_call 43; (with_reducible refine (dy (⟨#[63]⟩) (HT.o.alloc _) HN.o (bu zD) (by simp)).mono ?_); rintro e w1 ⟨rfl, ht1, hk1⟩)
 go_end0
 exact ⟨rfl, by rw [HE.o]; exact ht1, ((a8.refl B b w).alloc HT.o.2 _).trans hk1⟩
end
theorem yP {B b : Nat} {w0 : World} (hB : w0.heap.size <= B) (htab : Tab w0) {L : List Value} {x : Ex} (h : aT w0 L x) : Ek B b w0 L x := by
 induction h with
 | @mk op nm n cs ks cv A c C hop hnm hn hcs hl hc hk hx ih =>
   intro w ts ht hb hs; have HN : dd B b w0 nm cs ks cv A c C := ⟨hB, hnm, hcs, hl, hc, hk, hx, ih⟩; rw [zM] at hs ⊢; rcases Ax op with rfl | rfl | rfl | rfl | rfl | rfl | rfl | rfl | rfl | rfl | rfl | rfl | rfl | rfl | rfl | ⟨h1, h2, h3, h4, h5, h6, h7, h8, h9, h10, h11, h12, h13, h14, h15⟩
   . exact DK HN hn htab ht hb hs
   . exact DJ HN ht hb hs
   . exact DI HN ht hb hs
   . exact DH HN ht hb hs
   . exact DG HN ht hb hs
   . exact DF HN ht hb hs
   . exact DE HN ht hb hs
   . exact DD HN ht hb hs
   . exact DC HN ht hb hs
   . exact Br HN ht hb hs
   . exact Bq HN ht hb hs
   . exact Bp HN ht hb hs
   . exact Bo HN ht hb hs
   . exact Bn HN ht hb hs
   . exact Bm HN ht hb hs
   . exact Bl HN h1 h2 h3 h4 h5 h6 h7 h8 h9 h10 h11 h12 h13 h14 h15 ht hb hs
def Cm (x : Ex) (w : World) (e : Ending) (w' : World) : Prop := e = .returned (.string (str (iQ (aA x)))) /\ Below w.heap.size w w'
theorem zX {w0 : World} (htab : Tab w0) {x : Ex} {L : List Value} (hL : aT w0 L x) (hs : aM (aA x)) {w : World} (hb : Below w0.heap.size w0 w) :
  Calls prog 9 #[.agg L.toArray] w (Cm x w) := by
 have hsz := hb.size; have HI := zH (yP (B := w.heap.size + 1) (b := w.heap.size + 1) zO htab hL); have HS := zH hs; obtain ⟨o1, s1, n1, A1, m1, k1, A2, m2, k2, rfl⟩ := hL.shape; have ht0 := uA (w.alloc (.cells #[.int .i64 o1, .string s1, .int .i64 n1, .slice A1 m1 k1, .slice A2 m2 k2] 25)); rw [World.size_alloc] at ht0; have HT0 := zH (show bl (w.heap.size + 1) (w.heap.size + 1) [] _ from ⟨ht0, by simp⟩); have HB := zH (hb.alloc hsz (.cells #[.int .i64 o1, .string s1, .int .i64 n1, .slice A1 m1 k1, .slice A2 m2 k2] 25)); clear ht0; clear hb hs htab hL; go_enter func9, ntmps9
 go_wp2_with (first
  | (go_at_call 19; refine (HI.o _ [] HT0.o (HB.o.alloc (by simp; omega) _) HS.o).mono ?_; rintro e w1 ⟨rfl, ht1, hk1⟩)
  | (go_at_call 20; refine (xP _ _ _ _ _ ht1.1 ht1.2).mono ?_; rintro e w2 ⟨rfl, hb2⟩))
 go_ret; exact ⟨by rw [<- uX]; rfl, ((((Below.refl _ w).alloc (Nat.le_refl _) _).alloc (by simp) _).trans ((hk1.below.trans hb2).mono (by simp)))⟩
end Go.Proofs.YtdcjlihaldhhjaaGreatDoor
