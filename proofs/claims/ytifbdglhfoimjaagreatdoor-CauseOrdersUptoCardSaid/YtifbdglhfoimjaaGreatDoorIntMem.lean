/-
  Rows of numbers of the call's own: appended to, stored into, cut; a row of such rows; rows that are only read.
-/
import Derived.Test.YtifbdglhfoimjaaGreatDoorCauName
import Derived.Maps.AppendAt
import Derived.Laws.OwnMore
import Derived.Laws.MakeOwn
namespace Go.Proofs.YtifbdglhfoimjaaGreatDoor
open Go.RowKit

def intV (z : Int) : Value := .int .i64 z
/-- a row of the call's own that holds these numbers -/
def OwnN (B : Nat) (w : World) (v : Value) (l : List Int) : Prop := w.ownsRow B 3 1 v l.length (l.map intV)
theorem OwnN.nil (B : Nat) (w : World) : OwnN B w (.slice none 0 0) [] := ⟨rfl, .inl ⟨rfl, rfl⟩⟩
theorem row_keep {w w' : World} {B : Nat} {e : TypeId} {size n : Nat} {v : Value} {xs : List Value} (h : w.ownsRow B e size v n xs) (hk : ∀ g o, v.ownBlock = some g → w.heap[g]? = some o → w'.heap[g]? = some o) : w'.ownsRow B e size v n xs := by
  obtain ⟨h1, h2⟩ := h
  refine ⟨h1, ?_⟩
  rcases h2 with h2 | ⟨g, cap, cur, rfl, hg, hh, hr⟩
  · exact .inl h2
  · exact .inr ⟨g, cap, cur, rfl, hg, hk g _ rfl hh, hr⟩
theorem row_block {w : World} {B : Nat} {e : TypeId} {size n : Nat} {v : Value} {xs : List Value} (h : w.ownsRow B e size v n xs) {g : Nat} (hg : v.ownBlock = some g) : B ≤ g ∧ g < w.heap.size ∧ ∃ cur, w.heap[g]? = some (.cells cur e (0, 0)) := by
  rcases h.2 with ⟨rfl, _⟩ | ⟨g', cap, cur, rfl, hb, hh, _⟩
  · simp [Value.ownBlock] at hg
  · obtain rfl : g' = g := by simpa [Value.ownBlock] using hg
    exact ⟨hb, lt_of_heap hh, cur, hh⟩
theorem OwnN.keep {B : Nat} {w w' : World} {v : Value} {l : List Int} (h : OwnN B w v l) (hk : ∀ g o, v.ownBlock = some g → w.heap[g]? = some o → w'.heap[g]? = some o) : OwnN B w' v l := row_keep h hk
theorem OwnN.under {B : Nat} {w w' : World} {v : Value} {l : List Int} (h : OwnN B w v l) (hb : Below w.heap.size w w') : OwnN B w' v l := row_under h hb
theorem OwnN.mono {B B' : Nat} {w : World} {v : Value} {l : List Int} (h : OwnN B w v l) (hB : B' ≤ B) : OwnN B' w v l := row_mono h hB
theorem OwnN.shape {B : Nat} {w : World} {v : Value} {l : List Int} (h : OwnN B w v l) : ∃ A n c, v = .slice A n c ∧ n = l.length := by
  rcases h.2 with ⟨rfl, h0⟩ | ⟨g, cap, cur, rfl, _⟩
  · exact ⟨_, _, _, rfl, h0.symm⟩
  · exact ⟨_, _, _, rfl, rfl⟩
/-- the row's block, where it isn't empty -/
theorem OwnN.at_ {B : Nat} {w : World} {v : Value} {l : List Int} (h : OwnN B w v l) (h0 : 0 < l.length) : ∃ g c, v = .slice (some ⟨g, 0, none⟩) l.length c ∧ B ≤ g ∧ g < w.heap.size ∧ l.length ≤ c ∧ c ≤ maxLen ∧ (∀ k x, l[k]? = some x → w.cell? ⟨g, k, none⟩ = some (.int .i64 x)) ∧ ∀ k, w.frozen? ⟨g, k, none⟩ = false := by
  rcases h.2 with ⟨rfl, h1⟩ | ⟨g, cap, cur, rfl, hB, hh, hn, hm, _⟩
  · omega
  · have hc := World.ownsRow.cells h (g := g) rfl
    refine ⟨g, cap, rfl, hB, lt_of_heap hh, hn, hm, fun k x hx => ?_, fun k => row_frz hh k⟩
    have := hc k (intV x) (by rw [List.getElem?_map, hx]; rfl)
    have hadd : (⟨g, 0, none⟩ : Addr).add k = ⟨g, k, none⟩ := by unfold Addr.add; split <;> simp_all
    rwa [hadd] at this
theorem OwnN.set {B : Nat} {w : World} {g n c : Nat} {l : List Int} (h : OwnN B w (.slice (some ⟨g, 0, none⟩) n c) l) (hn : n = l.length) (k : Nat) (x : Int) : OwnN B (w.setCell ⟨g, k, none⟩ (.int .i64 x)) (.slice (some ⟨g, 0, none⟩) n c) (l.set k x) := by
  subst hn
  have := (World.ownsRow.stored h k (intV x)).1
  unfold OwnN
  rw [List.map_set, List.length_set]
  exact this
theorem OwnN.cut {B : Nat} {w : World} {g n c m : Nat} {l : List Int} (h : OwnN B w (.slice (some ⟨g, 0, none⟩) n c) l) (hm : m ≤ l.length) : OwnN B w (.slice (some ⟨g, 0, none⟩) m c) (l.take m) := by
  rcases h.2 with ⟨h', _⟩ | ⟨g', cap, cur, h', hb, hg, hnc, hcm, hcs, htake⟩
  · cases h'
  · cases h'
    refine ⟨by simp, .inr ⟨g, c, cur, by rw [List.length_take, Nat.min_eq_left hm], hb, hg, by rw [List.length_take]; omega, hcm, hcs, ?_⟩⟩
    rw [List.length_take, Nat.min_eq_left hm, List.map_take, ← htake, List.take_take]
    congr 1
    omega
theorem int_info : (Tryz.prog.info? 3).map (fun i => (i.zero, i.size, i.bytes)) = some (some (.int .i64 0), 1, 8) := by kernel_rfl
theorem ints_info : (Tryz.prog.info? 33).map (fun i => (i.zero, i.size, i.bytes)) = some (some (.slice none 0 0), 1, 24) := by kernel_rfl
theorem bool_info : (Tryz.prog.info? 4).map (fun i => (i.zero, i.size, i.bytes)) = some (some (.bool false), 1, 1) := by kernel_rfl
/-- what an append of a number leaves -/
structure AppN (B : Nat) (l : List Int) (v : Value) (W : World) (v' : Value) (w' : World) : Prop where
  own : OwnN B w' v' l
  grown : W.grownBy w' v.ownBlock
  loc : v'.ownBlock = v.ownBlock ∨ v'.ownBlock = some W.heap.size
theorem AppN.below {B : Nat} {l m : List Int} {v v' : Value} {W w' : World} (h : AppN B l v W v' w') (hO : OwnN B W v m) (hB : B ≤ W.heap.size) : Below B W w' := (Below.refl B W).grown h.grown hB fun _ hj => (row_block hO hj).1
theorem wp_appN {o : Oper} {a : Act} {W : World} {K : Act → World → Prop} {Q : Exit → Act → World → Prop} {B N : Nat} {v : Value} {l : List Int} {x : Int} (ts : TypeId) (hts : Tryz.prog.underlying ts = some (.slice 3)) (s y : Operand)
    (ho : o.op = .call { callee := .builtin .append, args := #[s, y], argTypes := #[ts, ts] }) (hs : a.eval s = v) (hy : a.eval y = .slice (some ⟨N, 0, none⟩) 1 1)
    (hN : W.heap[N]? = some (.cells #[.int .i64 x] 3 (0, 0))) (hO : OwnN B W v l) (hl : l.length ≤ 4194304) (hB : B ≤ W.heap.size)
    (h : ∀ v' w', AppN B (l ++ [x]) v W v' w' → K (a.put o.dst v') w') : Oper.wp Tryz.prog o a W K Q := by
  obtain ⟨i0, hi, hz0, hz1, hz2⟩ := info_parts int_info
  obtain ⟨v', w', hr, h2, h3, _, h5⟩ := run_append_own_at (P := Tryz.prog) W B ts o.type 3 i0 (.int .i64 0) 1 8 hts hi hz0 hz1 hz2 rfl (by decide) v l.length _ hO ⟨N, 0, none⟩ 1 1 [intV x] (by simp) (fun j u hj => by
    have hadd : (⟨N, 0, none⟩ : Addr).add j = ⟨N, j, none⟩ := by unfold Addr.add; split <;> simp_all
    rw [hadd, cell_of_row _ _ _ _ _ _ hN]
    simpa [intV] using hj) (fun u hu => by simp at hu; subst hu; rfl) (by unfold maxLen; omega) (by omega) hB
  unfold Oper.wp execOp
  simp only [ho, resolve, invoke, builtin, Sem.run_bind, Sem.run_pure, Result.andThen_ok, List.map_toArray, List.map_cons, List.map_nil, hs, hy, hr]
  exact h v' w' ⟨by unfold OwnN; simpa using h2, h3, h5⟩
theorem app_num {ops : Array Oper} {rest : List Oper} {o : Oper} {a : Act} {W : World} {Q : Exit → Act → World → Prop} {B N : Nat} {v : Value} {l : List Int} {x : Int} (ts : TypeId) (hts : Tryz.prog.underlying ts = some (.slice 3)) (hg : o.guard = none) (s y : Operand)
    (ho : o.op = .call { callee := .builtin .append, args := #[s, y], argTypes := #[ts, ts] }) (hs : a.eval s = v) (hy : a.eval y = .slice (some ⟨N, 0, none⟩) 1 1)
    (hN : W.heap[N]? = some (.cells #[.int .i64 x] 3 (0, 0))) (hO : OwnN B W v l) (hl : l.length ≤ 4194304) (hB : B ≤ W.heap.size)
    (h : ∀ v' w', AppN B (l ++ [x]) v W v' w' → wpList Tryz.prog ops Q rest (a.put o.dst v') w') : wpList Tryz.prog ops Q (o :: rest) a W :=
  wpList_plain hg fun _ hK' => wp_appN ts hts s y ho hs hy hN hO hl hB fun v' w' ha => hK' _ _ (h v' w' ha)
/-- 'make' of as many as it may hold -/
theorem make_run {t e : TypeId} {z : Value} {by_ n : Nat} (ht : Tryz.prog.underlying t = some (.slice e)) (hI : (Tryz.prog.info? e).map (fun i => (i.zero, i.size, i.bytes)) = some (some z, 1, by_)) (hz : z.cells = #[z]) (hby : by_ ≤ 24) (hn : n ≤ 1048576) (w : World) :
    (Instr.makeSlice t (.int .i64 (n : Int)) (.int .i64 (n : Int))).run Tryz.prog w = .ok (.slice (some ⟨w.heap.size, 0, none⟩) n n) (w.alloc (.cells (List.replicate n z).toArray e)) := by
  obtain ⟨i0, hi, hz0, hz1, hz2⟩ := info_parts hI
  have hb : (i0.bytes : Int) * (n : Int) ≤ 281474976710656 := by
    have h1 : i0.bytes * n ≤ 24 * 1048576 := by rw [hz2]; exact Nat.mul_le_mul hby hn
    have : ((i0.bytes * n : Nat) : Int) ≤ 281474976710656 := by omega
    rwa [Int.natCast_mul] at this
  have hr := run_makeSlice (P := Tryz.prog) w t e i0 z ht hi hz0 .i64 .i64 n n (by omega) (Int.le_refl _) (by rw [hz1, Int.toNat_natCast]; omega) hb (by omega)
  rw [hr, hz, hz1, Nat.mul_one, Int.toNat_natCast]
  have : madeCells #[z] n = (List.replicate n z).toArray := by rw [← toList_madeCells_one]
  rw [this]
theorem made_row {w : World} {B n : Nat} {z : Value} {e : TypeId} (hB : B ≤ w.heap.size) (hn : n ≤ 1048576) : (w.alloc (.cells (List.replicate n z).toArray e)).ownsRow B e 1 (.slice (some ⟨w.heap.size, 0, none⟩) n n) n (List.replicate n z) :=
  ⟨by simp, .inr ⟨w.heap.size, n, (List.replicate n z).toArray, rfl, hB, heap_alloc_new w _, Nat.le_refl _, by unfold maxLen; omega, by simp, by simp⟩⟩
theorem made_ints {w : World} {B n : Nat} (hB : B ≤ w.heap.size) (hn : n ≤ 1048576) : OwnN B (w.alloc (.cells (List.replicate n (.int .i64 0)).toArray 3)) (.slice (some ⟨w.heap.size, 0, none⟩) n n) (List.replicate n 0) := by
  have := made_row (z := .int .i64 0) (e := 3) hB hn
  unfold OwnN
  rw [List.map_replicate, List.length_replicate]
  exact this
/-- rows that are only read; P: where they may lie -/
def RowsAt (P : Nat → Prop) (w : World) (v : Value) (S : List (List Nat)) : Prop :=
  ∃ A c, v = .slice A S.length c ∧ S.length ≤ c ∧ c ≤ maxLen ∧ ∀ (i : Nat) l, S[i]? = some l → ∃ g o, A = some ⟨g, o, none⟩ ∧ P g ∧ ∃ A' c', w.cell? ⟨g, o + i, none⟩ = some (.slice A' l.length c') ∧ l.length ≤ c' ∧ c' ≤ maxLen ∧
    ∀ (j : Nat) x, l[j]? = some x → ∃ g' o', A' = some ⟨g', o', none⟩ ∧ P g' ∧ w.cell? ⟨g', o' + j, none⟩ = some (.int .i64 (x : Int))
theorem RowsAt.keep {P : Nat → Prop} {w w' : World} {v : Value} {S : List (List Nat)} (h : RowsAt P w v S) (hk : ∀ g, P g → g < w.heap.size → w'.heap[g]? = w.heap[g]?) : RowsAt P w' v S := by
  obtain ⟨A, c, rfl, h1, h2, h3⟩ := h
  refine ⟨A, c, rfl, h1, h2, fun i l hi => ?_⟩
  obtain ⟨g, o, rfl, hp, A', c', hc, h4, h5, h6⟩ := h3 i l hi
  have e1 : w'.cell? ⟨g, o + i, none⟩ = w.cell? ⟨g, o + i, none⟩ := World.cell?_of_block (hk g hp (World.block_lt_of_cell? w ⟨g, o + i, none⟩ hc))
  refine ⟨g, o, rfl, hp, A', c', by rw [e1]; exact hc, h4, h5, fun j x hx => ?_⟩
  obtain ⟨g', o', rfl, hp', hc'⟩ := h6 j x hx
  have e2 : w'.cell? ⟨g', o' + j, none⟩ = w.cell? ⟨g', o' + j, none⟩ := World.cell?_of_block (hk g' hp' (World.block_lt_of_cell? w ⟨g', o' + j, none⟩ hc'))
  exact ⟨g', o', rfl, hp', by rw [e2]; exact hc'⟩
theorem RowsAt.imp {P Q : Nat → Prop} {w : World} {v : Value} {S : List (List Nat)} (h : RowsAt P w v S) (hk : ∀ g, P g → g < w.heap.size → Q g) : RowsAt Q w v S := by
  obtain ⟨A, c, rfl, h1, h2, h3⟩ := h
  refine ⟨A, c, rfl, h1, h2, fun i l hi => ?_⟩
  obtain ⟨g, o, rfl, hp, A', c', hc, h4, h5, h6⟩ := h3 i l hi
  refine ⟨g, o, rfl, hk g hp (World.block_lt_of_cell? w ⟨g, o + i, none⟩ hc), A', c', hc, h4, h5, fun j x hx => ?_⟩
  obtain ⟨g', o', rfl, hp', hc'⟩ := h6 j x hx
  exact ⟨g', o', rfl, hk g' hp' (World.block_lt_of_cell? w ⟨g', o' + j, none⟩ hc'), hc'⟩
def natI (l : List Nat) : List Int := l.map (fun n : Nat => (n : Int))
theorem natI_len (l : List Nat) : (natI l).length = l.length := by simp [natI]
theorem natI_snoc (l : List Nat) (x : Nat) : natI (l ++ [x]) = natI l ++ [(x : Int)] := by simp [natI]
theorem natI_get {l : List Nat} {j x : Nat} (h : l[j]? = some x) : (natI l)[j]? = some (x : Int) := by simp [natI, h]
/-- a row of rows, each of the call's own, none in another's place -/
def MatAt (B : Nat) (w : World) (v : Value) (S : List (List Nat)) : Prop :=
  ∃ vs : List Value, w.ownsRow B 33 1 v S.length vs ∧ vs.length = S.length ∧ (∀ (i : Nat) u l, vs[i]? = some u → S[i]? = some l → OwnN B w u (natI l)) ∧ ∀ (i j : Nat) u u' g, i ≠ j → vs[i]? = some u → vs[j]? = some u' → u.ownBlock = some g → u'.ownBlock ≠ some g
theorem MatAt.made {w : World} {B n : Nat} (hB : B ≤ w.heap.size) (hn : n ≤ 1048576) : MatAt B (w.alloc (.cells (List.replicate n (.slice none 0 0)).toArray 33)) (.slice (some ⟨w.heap.size, 0, none⟩) n n) (List.replicate n []) := by
  refine ⟨List.replicate n (.slice none 0 0), by rw [List.length_replicate]; exact made_row hB hn, by simp, fun i u l hu hl => ?_, fun i j u u' g _ hu _ hg => ?_⟩
  · rw [List.getElem?_replicate] at hu hl
    split at hu
    · rename_i h; rw [if_pos h] at hl; cases hu; cases hl; exact OwnN.nil _ _
    · cases hu
  · rw [List.getElem?_replicate] at hu
    split at hu
    · cases hu; simp [Value.ownBlock] at hg
    · cases hu
theorem MatAt.under {B : Nat} {w w' : World} {v : Value} {S : List (List Nat)} (h : MatAt B w v S) (hb : Below w.heap.size w w') : MatAt B w' v S := by
  obtain ⟨vs, h1, h2, h3, h4⟩ := h
  exact ⟨vs, row_under h1 hb, h2, fun i u l hu hl => (h3 i u l hu hl).under hb, h4⟩
theorem MatAt.shape {B : Nat} {w : World} {v : Value} {S : List (List Nat)} (h : MatAt B w v S) (h0 : 0 < S.length) : ∃ g c, v = .slice (some ⟨g, 0, none⟩) S.length c ∧ B ≤ g ∧ g < w.heap.size ∧ S.length ≤ c ∧ c ≤ maxLen := by
  obtain ⟨vs, h1, _⟩ := h
  rcases h1.2 with ⟨_, h2⟩ | ⟨g, cap, cur, e, hB, hh, hn, hm, _⟩
  · omega
  · exact ⟨g, cap, e, hB, lt_of_heap hh, hn, hm⟩
/-- the row i of such a row -/
theorem MatAt.row {B : Nat} {w : World} {g n c : Nat} {S : List (List Nat)} (h : MatAt B w (.slice (some ⟨g, 0, none⟩) n c) S) {i : Nat} {l : List Nat} (hl : S[i]? = some l) :
    ∃ u, w.cell? ⟨g, i, none⟩ = some u ∧ w.frozen? ⟨g, i, none⟩ = false ∧ OwnN B w u (natI l) ∧ (u.ownBlock ≠ some g) ∧
      ∀ (x : Nat) (W w' : World) (u' : Value), Below w.heap.size w W → AppN B (natI (l ++ [x])) u W u' w' → MatAt B (w'.setCell ⟨g, i, none⟩ u') (.slice (some ⟨g, 0, none⟩) n c) (S.set i (l ++ [x])) ∧ (∀ k o, k ≠ g → u.ownBlock ≠ some k → W.heap[k]? = some o → (w'.setCell ⟨g, i, none⟩ u').heap[k]? = some o) := by
  obtain ⟨vs, h1, h2, h3, h4⟩ := h
  have hi : i < S.length := (List.getElem?_eq_some_iff.1 hl).1
  have hu : vs[i]? = some vs[i] := List.getElem?_eq_getElem (by omega)
  have hO := h3 i _ l hu hl
  obtain ⟨_, hgs, cur, hg⟩ := row_block h1 (g := g) rfl
  have hne : vs[i].ownBlock ≠ some g := fun e => by
    obtain ⟨_, _, cur', hg'⟩ := row_block hO e
    rw [hg] at hg'
    cases hg'
  have hc := World.ownsRow.cells h1 (g := g) rfl i _ hu
  have hadd : (⟨g, 0, none⟩ : Addr).add i = ⟨g, i, none⟩ := by unfold Addr.add; split <;> simp_all
  rw [hadd] at hc
  refine ⟨vs[i], hc, row_frz hg i, hO, hne, fun x W w' u' hb ha => ⟨?_, fun k o hk hk2 ho => ?_⟩⟩
  · have h1W := row_under h1 hb
    have h1w := row_keep (w' := w') h1W (fun k o hk ho => (ha.grown.block k (lt_of_heap ho) (fun e => by
      obtain rfl : g = k := by simpa [Value.ownBlock] using hk
      exact hne e.symm)).trans ho)
    have hn : n = S.length := by
      rcases h1.2 with ⟨h', _⟩ | ⟨_, _, _, h', _⟩
      · cases h'
      · cases h'; rfl
    subst hn
    have h1s := (World.ownsRow.stored h1w i u').1
    obtain ⟨_, _, cur2, hg2⟩ := row_block h1w (g := g) rfl
    have hset : ∀ {u : Value} {l : List Int}, OwnN B w' u l → OwnN B (w'.setCell ⟨g, i, none⟩ u') u l := fun hO' => hO'.keep fun k o hk ho => (Below.heap_setCell _ ⟨g, i, none⟩ _ k (fun e => by
      obtain ⟨_, _, cur3, hg3⟩ := row_block hO' hk
      have e : k = g := e
      subst e
      rw [hg2] at hg3
      cases hg3)).trans ho
    have hother : ∀ (j : Nat) y, j ≠ i → vs[j]? = some y → ∀ m, OwnN B w y m → OwnN B w' y m := fun j y hj hy m hm => (hm.under hb).keep fun k o hk ho => (ha.grown.block k (lt_of_heap ho) (fun e => h4 j i y _ k hj hy hu hk e.symm)).trans ho
    refine ⟨vs.set i u', by rw [List.length_set]; exact h1s, by simp [h2], fun j y m hy hm => ?_, fun j j' y y' k hj hy hy' hk => ?_⟩
    · by_cases e : i = j
      · subst e
        rw [List.getElem?_set_self (by omega)] at hy hm
        cases hy
        cases hm
        exact hset ha.own
      · rw [List.getElem?_set_ne e] at hy hm
        exact hset (hother j y (fun e2 => e e2.symm) hy _ (h3 j y m hy hm))
    · have hlt : ∀ (j : Nat) y, vs[j]? = some y → y.ownBlock = some k → k < W.heap.size := fun j y hy hk => by
        obtain ⟨m, hm⟩ : ∃ m, S[j]? = some m := ⟨_, List.getElem?_eq_getElem (by rw [← h2]; exact (List.getElem?_eq_some_iff.1 hy).1)⟩
        have := (row_block (h3 j y m hy hm) hk).2.1
        have := hb.size
        omega
      by_cases e : i = j
      · subst e
        rw [List.getElem?_set_self (by omega)] at hy
        rw [List.getElem?_set_ne hj] at hy'
        cases hy
        rcases ha.loc with h5 | h5
        · rw [h5] at hk
          exact h4 i j' _ y' k hj hu hy' hk
        · rw [h5] at hk
          intro e2
          have := hlt j' y' hy' e2
          injection hk with hk
          omega
      · rw [List.getElem?_set_ne e] at hy
        by_cases e' : i = j'
        · subst e'
          rw [List.getElem?_set_self (by omega)] at hy'
          cases hy'
          rcases ha.loc with h5 | h5
          · rw [h5]
            exact h4 j i y _ k (fun e2 => e e2.symm) hy hu hk
          · rw [h5]
            intro e2
            have := hlt j y hy hk
            injection e2 with e2
            omega
        · rw [List.getElem?_set_ne e'] at hy'
          exact h4 j j' y y' k hj hy hy' hk
  · rw [Below.heap_setCell _ ⟨g, i, none⟩ _ k hk]
    exact (ha.grown.block k (lt_of_heap ho) (fun e => hk2 e.symm)).trans ho
theorem MatAt.blk {B : Nat} {w : World} {g n c : Nat} {S : List (List Nat)} (h : MatAt B w (.slice (some ⟨g, 0, none⟩) n c) S) : B ≤ g ∧ g < w.heap.size ∧ ∃ cur, w.heap[g]? = some (.cells cur 33 (0, 0)) := by
  obtain ⟨vs, h1, _⟩ := h
  exact row_block h1 rfl
/-- as rows that are only read -/
theorem MatAt.rows {B : Nat} {w : World} {v : Value} {S : List (List Nat)} (h : MatAt B w v S) : RowsAt (fun g => B ≤ g ∧ ∃ cs T0, w.heap[g]? = some (.cells cs T0 (0, 0))) w v S := by
  obtain ⟨vs, h1, h2, h3, h4⟩ := h
  rcases h1.2 with ⟨rfl, h0⟩ | ⟨g, cap, cur, rfl, hB, hh, hn, hm, hs, ht⟩
  · have : S = [] := List.eq_nil_of_length_eq_zero h0
    subst this
    exact ⟨none, 0, rfl, Nat.le_refl _, by unfold maxLen; omega, fun i l h => by simp at h⟩
  · refine ⟨some ⟨g, 0, none⟩, cap, rfl, hn, hm, fun i l hi => ?_⟩
    have hil : i < S.length := (List.getElem?_eq_some_iff.1 hi).1
    have hu : vs[i]? = some vs[i] := List.getElem?_eq_getElem (by omega)
    have hO := h3 i _ l hu hi
    have hc := World.ownsRow.cells h1 (g := g) rfl i _ hu
    have hadd : (⟨g, 0, none⟩ : Addr).add i = ⟨g, 0 + i, none⟩ := by unfold Addr.add; split <;> simp_all
    rw [hadd] at hc
    rcases hO.2 with ⟨e, h0⟩ | ⟨g', cap', cur', e, hB', hh', hn', hm', _⟩
    · have hl0 : l = [] := List.eq_nil_of_length_eq_zero (by rw [← natI_len]; exact h0)
      subst hl0
      rw [e] at hc
      exact ⟨g, 0, rfl, ⟨hB, cur, _, hh⟩, none, 0, hc, Nat.le_refl _, by unfold maxLen; omega, fun j x h => by simp at h⟩
    · rw [e] at hc
      rw [natI_len] at hc hn'
      refine ⟨g, 0, rfl, ⟨hB, cur, _, hh⟩, some ⟨g', 0, none⟩, cap', hc, hn', hm', fun j x hx => ⟨g', 0, rfl, ⟨hB', cur', _, hh'⟩, ?_⟩⟩
      have := World.ownsRow.cells hO (g := g') (by rw [e]; rfl) j (intV x) (by rw [List.getElem?_map, natI_get hx]; rfl)
      have hadd : (⟨g', 0, none⟩ : Addr).add j = ⟨g', 0 + j, none⟩ := by unfold Addr.add; split <;> simp_all
      rwa [hadd] at this
end Go.Proofs.YtifbdglhfoimjaaGreatDoor
