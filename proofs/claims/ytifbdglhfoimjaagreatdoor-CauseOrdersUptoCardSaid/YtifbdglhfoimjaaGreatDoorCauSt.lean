/-
  What the ordering of items keeps in memory.
-/
import Derived.Test.YtifbdglhfoimjaaGreatDoorCauRdr
import Derived.Test.YtifbdglhfoimjaaGreatDoorHeapDown
namespace Go.Proofs.YtifbdglhfoimjaaGreatDoor
open Go.RowKit

theorem OwnN.cellAt {B : Nat} {w : World} {g n c : Nat} {l : List Int} (h : OwnN B w (.slice (some ⟨g, 0, none⟩) n c) l) {k : Nat} {x : Int} (hx : l[k]? = some x) : w.cell? ⟨g, k, none⟩ = some (.int .i64 x) ∧ w.frozen? ⟨g, k, none⟩ = false := by
  obtain ⟨g', c', e, _, _, _, _, h1, h2⟩ := h.at_ (by have := (List.getElem?_eq_some_iff.1 hx).1; omega)
  obtain rfl : g = g' := by simpa [Value.ownBlock] using congrArg Value.ownBlock e
  exact ⟨h1 k x hx, h2 k⟩
structure St (w : World) (MB NB : Nat) (v rv : Value) (S R : List (List Nat)) (W : World) (qv : Value) (M H : List Int) : Prop where
  mis : OwnN w.heap.size W (.slice (some ⟨MB, 0, none⟩) S.length S.length) M
  len : M.length = S.length
  que : QAt NB NB W qv H
  hea : HeapL H H.length
  src : RowsAt (fun g => g < NB ∧ g ≠ MB) W v S
  rdr : RowsAt (fun g => g < NB ∧ g ≠ MB) W rv R
  bel : Below w.heap.size w W
  lo : w.heap.size ≤ MB
  hi : MB < NB
section
variable {w : World} {MB NB : Nat} {v rv : Value} {S R : List (List Nat)} {W W' : World} {qv qv' : Value} {M H H' : List Int}
theorem St.under (h : St w MB NB v rv S R W qv M H) (hb : Below W.heap.size W W') : St w MB NB v rv S R W' qv M H :=
  ⟨h.mis.under hb, h.len, h.que.under hb, h.hea, h.src.keep fun g _ hg => hb.block g hg, h.rdr.keep fun g _ hg => hb.block g hg, h.bel.trans (hb.mono h.bel.size), h.lo, h.hi⟩
theorem St.queue (h : St w MB NB v rv S R W qv M H) (hs : QStep NB W qv W' qv') (hq : QAt NB NB W' qv' H') (hh : HeapL H' H'.length) : St w MB NB v rv S R W' qv' M H' := by
  have hk : ∀ g, g < NB → g < W.heap.size → W'.heap[g]? = W.heap[g]? := fun g hg hw => hs.block g hw (by omega) (fun e => by have := (row_block h.que.2.1 e).1; omega)
  exact ⟨h.mis.keep fun g o hg ho => (hk g (by have : MB = g := by simpa [Value.ownBlock] using hg
                                               have := h.hi
                                               omega) (lt_of_heap ho)).trans ho, h.len, hq, hh, h.src.keep fun g hg hw => hk g hg.1 hw, h.rdr.keep fun g hg hw => hk g hg.1 hw,
    h.bel.trans ((hs.below h.que).mono (by have := h.lo; have := h.hi; omega)), h.lo, h.hi⟩
theorem St.store (h : St w MB NB v rv S R W qv M H) (k : Nat) (x : Int) : St w MB NB v rv S R (W.setCell ⟨MB, k, none⟩ (.int .i64 x)) qv (M.set k x) H := by
  have hk : ∀ g, g ≠ MB → (W.setCell ⟨MB, k, none⟩ (.int .i64 x)).heap[g]? = W.heap[g]? := fun g hg => Below.heap_setCell _ ⟨MB, k, none⟩ _ g hg
  have hhi := h.hi
  refine ⟨h.mis.set h.len.symm k x, by simp [h.len], ⟨(hk NB (by omega)).trans h.que.1, h.que.2.1.keep fun g o hg ho => ?_, h.que.2.2⟩, h.hea, h.src.keep fun g hg _ => hk g hg.2, h.rdr.keep fun g hg _ => hk g hg.2, h.bel.setCell (p := ⟨MB, k, none⟩) h.lo _, h.lo, h.hi⟩
  exact (hk g (by have := (row_block h.que.2.1 hg).1; omega)).trans ho
theorem St.app {lv lv' : Value} {out : List Int} {out' : List Int} (h : St w MB NB v rv S R W qv M H) (hO : OwnN NB W lv out) (hd : ∀ g, lv.ownBlock = some g → qv.ownBlock ≠ some g) (ha : AppN NB out' lv W lv' W') :
    St w MB NB v rv S R W' qv M H ∧ ∀ g, lv'.ownBlock = some g → qv.ownBlock ≠ some g := by
  have hb : Below NB W W' := ha.below hO (by have := lt_of_heap h.que.1; omega)
  have hN : lv.ownBlock ≠ some NB := fun e => by
    obtain ⟨_, _, cur, hh⟩ := row_block hO e
    rw [h.que.1] at hh
    cases hh
  have hhi := h.hi
  refine ⟨⟨h.mis.keep fun g o hg ho => (hb.block g (by have : MB = g := by simpa [Value.ownBlock] using hg
                                                       omega)).trans ho, h.len, ⟨(ha.grown.block NB (lt_of_heap h.que.1) (fun e => hN e.symm)).trans h.que.1, h.que.2.1.keep fun g o hg ho => (ha.grown.block g (lt_of_heap ho) (fun e => hd g e.symm hg)).trans ho, h.que.2.2⟩, h.hea,
    h.src.keep fun g hg _ => hb.block g hg.1, h.rdr.keep fun g hg _ => hb.block g hg.1, h.bel.trans (hb.mono (by have := h.lo; omega)), h.lo, h.hi⟩, fun g hg => ?_⟩
  rcases ha.loc with e | e
  · exact hd g (by rw [← e]; exact hg)
  · rw [e] at hg
    injection hg with hg
    intro e2
    have := (row_block h.que.2.1 e2).2.1
    omega
/-- the answer's row beside the queue, and what a queue's step leaves of it -/
theorem St.beside {lv : Value} {out : List Int} (h : St w MB NB v rv S R W qv M H) (hO : OwnN NB W lv out) (hd : ∀ g, lv.ownBlock = some g → qv.ownBlock ≠ some g) (hs : QStep NB W qv W' qv') : OwnN NB W' lv out ∧ ∀ g, lv.ownBlock = some g → qv'.ownBlock ≠ some g := by
  have hN : ∀ g, lv.ownBlock = some g → g ≠ NB ∧ g < W.heap.size := fun g hg => by
    obtain ⟨_, hl, cur, hh⟩ := row_block hO hg
    exact ⟨(fun e => by subst e; rw [h.que.1] at hh; cases hh), hl⟩
  refine ⟨hO.keep fun g o hg ho => (hs.block g (lt_of_heap ho) (hN g hg).1 (hd g hg)).trans ho, fun g hg e => ?_⟩
  rcases hs.loc g e with h1 | h1
  · exact hd g hg h1
  · have := (hN g hg).2
    omega
theorem St.besideSet {lv : Value} {out : List Int} (h : St w MB NB v rv S R W qv M H) (hO : OwnN NB W lv out) (k : Nat) (x : Value) : OwnN NB (W.setCell ⟨MB, k, none⟩ x) lv out :=
  hO.keep fun g o hg ho => (Below.heap_setCell _ ⟨MB, k, none⟩ _ g (show g ≠ MB from fun e => by have := (row_block hO hg).1; have := h.hi; omega)).trans ho
end
theorem M_get {M : List Int} {n k : Nat} (hl : M.length = n) (hk : k < n) : M[k]? = some (M.getD k 0) := by
  rw [List.getD_eq_getElem?_getD, List.getElem?_eq_getElem (by omega)]; rfl
/-- the first k items told -/
structure IniOk (S : List (List Nat)) (k : Nat) (M H : List Int) : Prop where
  miss : ∀ r, r < S.length → M.getD r 0 = if r < k then ((S.getD r []).length : Int) else 0
  nodup : H.Nodup
  mem : ∀ z : Int, z ∈ H ↔ ∃ r : Nat, z = (r : Int) ∧ r < k ∧ S.getD r [] = []
theorem nat_few {H : List Int} {n : Nat} (hn : H.Nodup) (h : ∀ z ∈ H, ∃ r : Nat, z = (r : Int) ∧ r < n) : H.length ≤ n := by
  have := nodup_le (m := (List.range n).map (fun r : Nat => (r : Int))) hn (fun z hz => by
    obtain ⟨r, e, hr⟩ := h z hz
    exact List.mem_map.2 ⟨r, List.mem_range.2 hr, e.symm⟩)
  simpa using this
section
variable {S : List (List Nat)} {k : Nat} {M H H' : List Int} {l : List Nat}
theorem IniOk.few (h : IniOk S k M H) : H.length ≤ k := nat_few h.nodup fun z hz => by obtain ⟨r, e, h1, _⟩ := (h.mem z).1 hz; exact ⟨r, e, h1⟩
theorem IniOk.start : IniOk S 0 (List.replicate S.length 0) [] := by
  refine ⟨fun r hr => ?_, List.nodup_nil, fun z => ?_⟩
  · rw [if_neg (by omega), List.getD_eq_getElem?_getD, List.getElem?_replicate, if_pos hr]; rfl
  · constructor
    · intro h; cases h
    · rintro ⟨r, _, h, _⟩; omega
theorem IniOk.misses (h : IniOk S k M H) (hl : S[k]? = some l) (hM : M.length = S.length) : ∀ r, r < S.length → (M.set k (l.length : Int)).getD r 0 = if r < k + 1 then ((S.getD r []).length : Int) else 0 := by
  intro r hr
  have hg : S.getD k [] = l := by rw [List.getD_eq_getElem?_getD, hl]; rfl
  by_cases e : k = r
  · subst e
    rw [if_pos (by omega), hg]
    simp [List.getD_eq_getElem?_getD, hM, hr]
  · have : (M.set k (l.length : Int)).getD r 0 = M.getD r 0 := by rw [List.getD_eq_getElem?_getD, List.getElem?_set, if_neg e, List.getD_eq_getElem?_getD]
    rw [this, h.miss r hr]
    by_cases h1 : r < k
    · rw [if_pos h1, if_pos (by omega)]
    · rw [if_neg h1, if_neg (by omega)]
theorem IniOk.stay (h : IniOk S k M H) (hl : S[k]? = some l) (hM : M.length = S.length) (h0 : l ≠ []) : IniOk S (k + 1) (M.set k (l.length : Int)) H := by
  have hg : S.getD k [] = l := by rw [List.getD_eq_getElem?_getD, hl]; rfl
  refine ⟨h.misses hl hM, h.nodup, fun z => ?_⟩
  rw [h.mem z]
  constructor
  · rintro ⟨r, e, h1, h2⟩; exact ⟨r, e, by omega, h2⟩
  · rintro ⟨r, e, h1, h2⟩
    refine ⟨r, e, ?_, h2⟩
    by_cases e2 : r = k
    · subst e2; exact absurd (hg.symm.trans h2) h0
    · omega
theorem IniOk.push (h : IniOk S k M H) (hl : S[k]? = some []) (hM : M.length = S.length) (hp : H'.Perm (H ++ [(k : Int)])) : IniOk S (k + 1) (M.set k 0) H' := by
  have hg : S.getD k [] = [] := by rw [List.getD_eq_getElem?_getD, hl]; rfl
  refine ⟨h.misses hl hM, ?_, fun z => ?_⟩
  · rw [hp.nodup_iff, List.nodup_append]
    refine ⟨h.nodup, by simp, fun a ha c hc e => ?_⟩
    simp at hc
    subst hc
    subst e
    obtain ⟨r, e, h1, _⟩ := (h.mem _).1 ha
    omega
  · rw [hp.mem_iff, List.mem_append, h.mem z]
    constructor
    · rintro (⟨r, e, h1, h2⟩ | h1)
      · exact ⟨r, e, by omega, h2⟩
      · simp at h1; exact ⟨k, h1, by omega, hg⟩
    · rintro ⟨r, e, h1, h2⟩
      by_cases e2 : r = k
      · subst e2; exact .inr (by simp [e])
      · exact .inl ⟨r, e, by omega, h2⟩
theorem IniOk.done (h : IniOk S S.length M H) (hM : M.length = S.length) : OuterOk S [] M H := by
  refine ⟨⟨List.nodup_nil, fun r hr => by cases hr⟩, hM, fun r hr => ?_, h.nodup, fun z => ?_⟩
  · rw [h.miss r hr, if_pos hr]
    unfold missR
    congr 1
    rw [List.filter_eq_self.2]
    intro a _
    simp
  · rw [h.mem z]
    constructor
    · rintro ⟨r, e, h1, h2⟩; exact ⟨r, e, h1, by simp, fun d hd => by rw [h2] at hd; cases hd⟩
    · rintro ⟨r, e, h1, _, h2⟩
      refine ⟨r, e, h1, ?_⟩
      cases hc : S.getD r [] with
      | nil => rfl
      | cons a t => rw [hc] at h2; have := h2 a (by simp); cases this
end
theorem InnerOk.room {S : List (List Nat)} {out : List Nat} {b : Nat} {R : List Nat} {j : Nat} {M H : List Int} {r : Nat} (h : InnerOk S out b R j M H) (hr : R[j]? = some r) : H.length < S.length := by
  have hl := h.below r (List.mem_of_getElem? hr)
  have := nat_few (H := (r : Int) :: H) (n := S.length) (List.nodup_cons.2 ⟨h.fresh hr, h.nodup⟩) (fun z hz => by
    rcases List.mem_cons.1 hz with rfl | hz
    · exact ⟨r, rfl, hl⟩
    · obtain ⟨x, e, h1, _⟩ := (h.mem z).1 hz; exact ⟨x, e, h1⟩)
  simp at this
  omega
theorem OuterOk.few {S : List (List Nat)} {out : List Nat} {M H : List Int} (h : OuterOk S out M H) : H.length ≤ S.length := nat_few h.nodup fun z hz => by obtain ⟨r, e, h1, _⟩ := (h.mem z).1 hz; exact ⟨r, e, h1⟩
theorem miss_le (S : List (List Nat)) (out : List Nat) (r : Nat) : missR S out r ≤ S.flatten.length := by
  unfold missR
  refine Nat.le_trans (List.length_filter_le _ _) ?_
  rw [List.getD_eq_getElem?_getD]
  cases h : S[r]? with
  | none => simp
  | some l =>
    have h1 := flat_take h
    have h2 := flat_take_le S (r + 1)
    simp only [Option.getD_some]
    omega
end Go.Proofs.YtifbdglhfoimjaaGreatDoor
