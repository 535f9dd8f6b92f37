/-
  A text by its tokens; put of tokens made at the call; names, statics.
-/
import Derived.Test.YtaimagfdjbedeaaGreatDoorTreePut
namespace Go.Proofs.YtaimagfdjbedeaaGreatDoor
open Go.RowKit

/-- the text at b holds the tokens ts -/
def TextW (B b : Nat) (ts : List Tx) (w : World) : Prop := TextL B b (putL false ts) (!ts.isEmpty) w ∧ B ≤ w.heap.size
def SizeOk (ts : List Tx) : Prop := (putL false ts).length ≤ 140737488355328
theorem SizeOk.left {a r : List Tx} (h : SizeOk (a ++ r)) : SizeOk a := by
  unfold SizeOk at h ⊢
  rw [putL_app, List.length_append] at h
  omega
theorem TextW.alloc {B b : Nat} {ts : List Tx} {w : World} (h : TextW B b ts w) (o : Obj) : TextW B b ts (w.alloc o) := ⟨IsText.alloc h.1 o, by have := h.2; simp; omega⟩
theorem TextW.lt {B b : Nat} {ts : List Tx} {w : World} (h : TextW B b ts w) : b < w.heap.size := IsText.lt h.1
/-- what putting the tokens xs leaves -/
def PutPost (B b : Nat) (ts : List Tx) (w : World) (e : Ending) (w' : World) : Prop := e = .returned (.tuple #[]) ∧ TextW B b ts w' ∧ TKept B b w w'
def tks (l : List ByteArray) : List Tx := l.map fun x => x.data.toList
theorem TKept.alloc {B b : Nat} {w w' : World} (h : TKept B b w w') (hB : B ≤ w.heap.size) (o : Obj) : TKept B b w (w'.alloc o) := ⟨h.1.alloc (by have := h.1.size; omega) o, h.2.alloc o⟩
theorem put_made {B b : Nat} {ts : List Tx} {W : World} (xs : List ByteArray) (h : TextW B b ts W) (hlen : SizeOk (ts ++ tks xs)) (hx : ∀ x ∈ xs, x.size ≤ maxLen) (hn : xs.length ≤ maxLen) :
    Calls Tryz.prog 46 #[.pointer (some ⟨b, 0, none⟩), .slice (some ⟨W.heap.size, 0, none⟩) xs.length xs.length] (W.alloc (.cells (xs.map Value.string).toArray 9)) (PutPost B b (ts ++ tks xs) W) := by
  have hh := heap_alloc_new W (.cells (xs.map Value.string).toArray 9)
  have hne : W.heap.size ≠ b := fun e => by have := h.lt; omega
  have hw := h.alloc (.cells (xs.map Value.string).toArray 9)
  have hv : ToksAt B b (W.alloc (.cells (xs.map Value.string).toArray 9)) (.slice (some ⟨W.heap.size, 0, none⟩) xs.length xs.length) (tks xs) := by
    refine ⟨⟨some ⟨W.heap.size, 0, none⟩, xs.length, by simp [tks], by simp [tks], hn, fun i x hx' => ?_⟩, fun A n c e _ => ?_⟩
    · obtain ⟨y, hy, rfl⟩ : ∃ y, xs[i]? = some y ∧ y.data.toList = x := by simpa [tks] using hx'
      refine ⟨[.string y], ⟨_, rfl, fun j u hu => ?_⟩, by rw [str_eq], by have := hx y (List.mem_of_getElem? hy); rw [Array.length_toList]; exact this⟩
      match j, hu with
      | 0, hu =>
        simp at hu; subst hu
        rw [add_zero]
        have ha : (⟨W.heap.size, 0, none⟩ : Addr).add (i * [Value.string y].length) = ⟨W.heap.size, i, none⟩ := by unfold Addr.add; split <;> simp_all
        rw [ha, cell_of_row _ _ _ _ _ _ hh]
        simp [hy]
    · injection e with e _ _
      injection e with e
      subst e
      exact .inr ⟨hne, _, _, _, hh, by decide⟩
  have hp : putL false ts ++ putL (!ts.isEmpty) (tks xs) = putL false (ts ++ tks xs) := by rw [putL_app]; simp
  refine (put_any _ hw.1 hv (by have := hlen; unfold SizeOk at this; rw [← hp, List.length_append] at this; exact this) hw.2).mono ?_
  rintro e w' ⟨rfl, h1, h2⟩
  refine ⟨rfl, ⟨?_, Nat.le_trans hw.2 h2.1.size⟩, ((TKept.refl B b W).alloc h.2 _).trans h2⟩
  rw [hp] at h1
  have : (!ts.isEmpty || !(tks xs).isEmpty) = !(ts ++ tks xs).isEmpty := by cases ts <;> simp
  rwa [this] at h1
theorem put1 {B b : Nat} {ts : List Tx} {W : World} {x : ByteArray} (h : TextW B b ts W) (hlen : SizeOk (ts ++ [x.data.toList])) (hx : x.size ≤ maxLen) :
    Calls Tryz.prog 46 #[.pointer (some ⟨b, 0, none⟩), .slice (some ⟨W.heap.size, 0, none⟩) 1 1] (W.alloc (.cells #[.string x] 9)) (PutPost B b (ts ++ [x.data.toList]) W) :=
  put_made [x] h hlen (by simpa using hx) (by simp only [List.length_cons, List.length_nil]; decide)
theorem put2 {B b : Nat} {ts : List Tx} {W : World} {x y : ByteArray} (h : TextW B b ts W) (hlen : SizeOk (ts ++ [x.data.toList, y.data.toList])) (hx : x.size ≤ maxLen) (hy : y.size ≤ maxLen) :
    Calls Tryz.prog 46 #[.pointer (some ⟨b, 0, none⟩), .slice (some ⟨W.heap.size, 0, none⟩) 2 2] (W.alloc (.cells #[.string x, .string y] 9)) (PutPost B b (ts ++ [x.data.toList, y.data.toList]) W) :=
  put_made [x, y] h hlen (by simp [hx, hy]) (by simp only [List.length_cons, List.length_nil]; decide)
theorem put3 {B b : Nat} {ts : List Tx} {W : World} {x y z : ByteArray} (h : TextW B b ts W) (hlen : SizeOk (ts ++ [x.data.toList, y.data.toList, z.data.toList])) (hx : x.size ≤ maxLen) (hy : y.size ≤ maxLen) (hz : z.size ≤ maxLen) :
    Calls Tryz.prog 46 #[.pointer (some ⟨b, 0, none⟩), .slice (some ⟨W.heap.size, 0, none⟩) 3 3] (W.alloc (.cells #[.string x, .string y, .string z] 9)) (PutPost B b (ts ++ [x.data.toList, y.data.toList, z.data.toList]) W) :=
  put_made [x, y, z] h hlen (by simp [hx, hy, hz]) (by simp only [List.length_cons, List.length_nil]; decide)
theorem namesT_snoc (s : Tx) {l : List Tx} {k : Nat} {x : Tx} (h : l[k]? = some x) : namesT s (l.take (k + 1)) = namesT s (l.take k) ++ (if k = 0 then [x] else [s, x]) := by
  have hk : k < l.length := (List.getElem?_eq_some_iff.1 h).1
  unfold namesT
  rw [take_snoc h, List.map_append, List.map_cons, List.map_nil, sepT_snoc]
  congr 1
  by_cases h0 : k = 0
  · subst h0; simp
  · have h1 : (l.take k).map (fun x => [x]) ≠ [] := by
      intro e
      have := congrArg List.length e
      rw [List.length_map, List.length_take, List.length_nil] at this
      omega
    rw [if_neg h1, if_neg h0]
    rfl
theorem SizeOk.take {ts : List Tx} {s : Tx} {l : List Tx} (h : SizeOk (ts ++ namesT s l)) (k : Nat) : SizeOk (ts ++ namesT s (l.take k)) := by
  have e : ∀ m : List Tx, ∃ r, namesT s (l.take k ++ m) = namesT s (l.take k) ++ r := by
    intro m
    unfold namesT
    rw [List.map_append]
    cases hl : (l.take k).map fun x => [x] with
    | nil => exact ⟨_, by simp [sepT]; rfl⟩
    | cons y r => exact ⟨_, by simp only [List.cons_append, sepT, List.flatMap_append, ← List.append_assoc]; rfl⟩
  obtain ⟨r, hr⟩ := e (l.drop k)
  rw [List.take_append_drop] at hr
  rw [hr, ← List.append_assoc] at h
  exact h.left
set_option maxHeartbeats 1000000 in
theorem names_any {B b : Nat} {ts : List Tx} {v : Value} {l : List Tx} {s : Tx} (w : World) (h : TextW B b ts w) (hl : ToksAt B b w v l) (hlen : SizeOk (ts ++ namesT s l)) (hs : s.length ≤ maxLen) :
    Calls Tryz.prog 102 #[.pointer (some ⟨b, 0, none⟩), v, .string (str s)] w (PutPost B b (ts ++ namesT s l) w) := by
  have hT := Lib.hid hl
  obtain ⟨⟨A, c, rfl, hc, hm, hE⟩, _⟩ := hl
  have hlm : l.length ≤ 9223372036854775807 := by unfold maxLen at hm; omega
  have HE := Lib.hid (show ∀ (i : Nat) x, l[i]? = some x → x.length ≤ maxLen from fun i x hx => by obtain ⟨_, _, _, h⟩ := hE i x hx; exact h)
  have HL := Lib.hid hlen
  have H0 := Lib.hid h
  have HS := Lib.hid (show (str s).size ≤ maxLen from hs)
  clear hc hm hlen h hE hs
  go_enter Tryz.func102, Tryz.ntmps102
  go_wp2_with fail
  go_loopg [10] l.length (fun g v wr => ∃ k : Nat, k + g = l.length ∧ v = .int .i64 k ∧ TextW B b (ts ++ namesT s (l.take k)) wr ∧ TKept B b w wr)
  case atStart => exact ⟨0, by omega, rfl, by simpa [namesT, sepT] using H0.out, TKept.refl _ _ _⟩
  case round =>
    obtain ⟨k, hkg, rfl, hto, hbw⟩ := hrel
    have HK := Lib.hid hkg
    have HW := Lib.hid hbw
    have HTO := Lib.hid hto
    have hkl : k ≤ l.length := by omega
    clear hkg hbw hto
    by_cases hlt : k < l.length
    · obtain ⟨x, hx⟩ : ∃ x, l[k]? = some x := ⟨_, List.getElem?_eq_getElem hlt⟩
      obtain ⟨a, rfl, d0⟩ := hT.out.cell HW.out hx
      rw [Nat.mul_one] at d0
      have HX := Lib.hid (show (str x).size ≤ maxLen from HE.out k x hx)
      have HN := Lib.hid (HL.out.take (k + 1))
      have HE1 := Lib.hid (namesT_snoc s hx)
      clear hx
      by_cases h0 : k = 0
      · subst h0
        rw [add_zero] at d0
        have HN1 := Lib.hid (show SizeOk (ts ++ namesT s (l.take 0) ++ [x]) by have := HN.out; rw [HE1.out, if_pos rfl, ← List.append_assoc] at this; exact this)
        go_wp2_with (go_at_call 46; refine (put1 HTO.out HN1.out HX.out).mono ?_; rintro e w1 ⟨rfl, ht1, hk1⟩)
        go_roundg (l.length - 1)
        case measure => have := HK.out; omega
        case rel => exact ⟨1, by omega, by go_num, by rw [HE1.out]; simp only [↓reduceIte, ← List.append_assoc]; exact ht1, HW.out.trans hk1⟩
      · have hk0 : 0 < k := by omega
        have HN2 := Lib.hid (show SizeOk (ts ++ namesT s (l.take k) ++ [(str s).data.toList] ++ [(str x).data.toList]) by have := HN.out; rw [HE1.out, if_neg h0] at this; simpa [str_toList] using this)
        have H00 := Lib.hid h0
        clear h0
        go_wp2_with (first
          | (go_at_call 46
             with_reducible refine (put1 HTO.out HN2.out.left HS.out).mono ?_
             rintro e w1 ⟨rfl, ht1, hk1⟩)
          | (go_at_call 46
             with_reducible refine (put1 ht1 HN2.out HX.out).mono ?_
             rintro e w2 ⟨rfl, ht2, hk2⟩))
        go_roundg (l.length - (k + 1))
        case measure => have := HK.out; omega
        case rel => exact ⟨k + 1, by omega, by go_num, by rw [HE1.out, if_neg H00.out]; simpa [str_toList] using ht2, HW.out.trans (hk1.trans hk2)⟩
    · have hke : k = l.length := by omega
      have HKE := Lib.hid hke
      clear hke
      go_wp2_with fail
      go_end0
      refine ⟨rfl, ?_, HW.out⟩
      have := HTO.out
      rwa [HKE.out, List.take_length] at this
end Go.Proofs.YtaimagfdjbedeaaGreatDoor
