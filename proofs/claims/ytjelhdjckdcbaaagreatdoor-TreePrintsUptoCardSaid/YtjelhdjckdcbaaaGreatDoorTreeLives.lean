/-
  The law's own look that the program lives: Halves, one, lives.
-/
import Derived.Test.YtjelhdjckdcbaaaGreatDoorTreeNode
import Derived.Test.YtjelhdjckdcbaaaGreatDoorTreeSame
namespace Go.Proofs.YtjelhdjckdcbaaaGreatDoor
open Go.RowKit

theorem flatN {n : Nat} : ∀ (Ls : List (List Value)), (∀ L ∈ Ls, L.length = n) → ∀ (i j : Nat) (L : List Value), Ls[i]? = some L → j < n → ∀ u, L[j]? = some u → Ls.flatten[i * n + j]? = some u
  | [], _, i, _, _, hi, _, _, _ => by simp at hi
  | M :: r, h, 0, j, L, hi, hj, u, hu => by
    have h5 := h M (by simp)
    obtain rfl : M = L := by simpa using hi
    rw [List.flatten_cons, Nat.zero_mul, Nat.zero_add, List.getElem?_append_left (by omega)]
    exact hu
  | M :: r, h, i + 1, j, L, hi, hj, u, hu => by
    have h5 := h M (by simp)
    have := flatN r (fun N hN => h N (by simp [hN])) i j L (by simpa using hi) hj u hu
    rw [List.flatten_cons, List.getElem?_append_right (by rw [h5, Nat.succ_mul]; omega)]
    rw [show (i + 1) * n + j - M.length = i * n + j by rw [h5, Nat.succ_mul]; omega]
    exact this
/-- a row that the call made, read as a slice -/
theorem made_slice {X : Type} {R : List Value → X → Prop} {w : World} {g : Nat} {T : TypeId} {fz : Nat × Nat} {n : Nat} {c : Array Value} (xs : List X) (Ls : List (List Value)) (hn : ∀ L ∈ Ls, L.length = n)
    (hb : w.heap[g]? = some (.cells c T fz)) (hc : c.toList = Ls.flatten) (hl : Ls.length = xs.length) (hR : ∀ (i : Nat) L x, Ls[i]? = some L → xs[i]? = some x → R L x) (hm : xs.length ≤ maxLen) :
    SliceAt w R (.slice (some ⟨g, 0, none⟩) xs.length xs.length) xs := by
  refine ⟨_, _, rfl, Nat.le_refl _, hm, fun i x hx => ?_⟩
  have hi : i < Ls.length := by rw [hl]; exact (List.getElem?_eq_some_iff.1 hx).1
  have hL : Ls[i]? = some Ls[i] := List.getElem?_eq_getElem hi
  refine ⟨Ls[i], ⟨_, rfl, fun j u hu => ?_⟩, hR i _ x hL hx⟩
  have hN := hn Ls[i] (List.getElem_mem hi)
  rw [hN, add_add]
  have ha : (⟨g, 0, none⟩ : Addr).add (i * n + j) = ⟨g, i * n + j, none⟩ := by unfold Addr.add; split <;> simp_all
  have := flatN Ls hn i j _ hL (by rw [← hN]; exact (List.getElem?_eq_some_iff.1 hu).1) u hu
  rw [ha, cell_of_row _ _ _ _ _ _ hb, ← Array.getElem?_toList, hc]
  exact this
theorem ex_leaf (w : World) {op n : Int} {nm : Tx} (hop : i64B op) (hn : i64B n) (hm : nm.length ≤ maxLen) :
    ExAt w [.int .i64 op, .string (str nm), .int .i64 n, .slice none 0 0, .slice none 0 0] (.mk op nm n [] []) :=
  .mk (C := fun _ => []) (ks := []) hop hm hn ⟨none, 0, rfl, Nat.le_refl _, by unfold maxLen; omega, fun i x h => by simp at h⟩ (Nat.le_refl _) (by unfold maxLen; omega) (fun i k h => by simp at h) (fun i k h => by simp at h)
theorem ex_node {w : World} {op n : Int} {nm : Tx} {cs : List Tx} {ks : List Ex} {cv kv : Value} (hop : i64B op) (hn : i64B n) (hm : nm.length ≤ maxLen) (hcs : StrsAt w cv cs) (hk : SliceAt w (ExAt w) kv ks) :
    ExAt w [.int .i64 op, .string (str nm), .int .i64 n, cv, kv] (.mk op nm n cs ks) := by
  obtain ⟨A, c, rfl, h1, h2, h3⟩ := hk
  have : ∀ i, ∃ L, ∀ x, ks[i]? = some x → ElemAt w A i L ∧ ExAt w L x := by
    intro i
    cases h : ks[i]? with
    | none => exact ⟨[], fun x hx => by cases hx⟩
    | some y =>
      obtain ⟨L, hL⟩ := h3 i y h
      exact ⟨L, fun x hx => by cases hx; exact hL⟩
  obtain ⟨C, hC⟩ := Classical.axiomOfChoice this
  exact .mk (C := C) hop hm hn hcs h1 h2 (fun i k hi => (hC i k hi).1) (fun i k hi => (hC i k hi).2)
theorem strs_none (w : World) : StrsAt w (.slice none 0 0) [] := ⟨none, 0, rfl, Nat.le_refl _, by unfold maxLen; omega, fun i x h => by simp at h⟩
theorem two_R {X : Type} {R : List Value → X → Prop} {L M : List Value} {x y : X} (h1 : R L x) (h2 : R M y) : ∀ (i : Nat) K z, [L, M][i]? = some K → [x, y][i]? = some z → R K z := by
  intro i K z hK hz
  match i, hK, hz with
  | 0, hK, hz => simp at hK hz; subst hK hz; exact h1
  | 1, hK, hz => simp at hK hz; subst hK hz; exact h2
  | i + 2, hK, hz => simp at hK
theorem one_R {X : Type} {R : List Value → X → Prop} {L : List Value} {x : X} (h1 : R L x) : ∀ (i : Nat) K z, [L][i]? = some K → [x][i]? = some z → R K z := by
  intro i K z hK hz
  match i, hK, hz with
  | 0, hK, hz => simp at hK hz; subst hK hz; exact h1
  | i + 1, hK, hz => simp at hK
theorem made2 {X : Type} {R : List Value → X → Prop} {w : World} {g : Nat} {T : TypeId} {fz : Nat × Nat} {c : Array Value} {x y : X} {L M : List Value}
    (hb : w.heap[g]? = some (.cells c T fz)) (h1 : R L x) (h2 : R M y) (hc : c.toList = L ++ M) (hn : L.length = M.length) : SliceAt w R (.slice (some ⟨g, 0, none⟩) 2 2) [x, y] :=
  made_slice (n := L.length) [x, y] [L, M] (by intro K hK; simp at hK; rcases hK with rfl | rfl; rfl; exact hn.symm) hb (by simp [hc]) rfl (two_R h1 h2) (by simp only [List.length_cons, List.length_nil]; unfold maxLen; omega)
theorem made1 {X : Type} {R : List Value → X → Prop} {w : World} {g : Nat} {T : TypeId} {fz : Nat × Nat} {c : Array Value} {x : X} {L : List Value}
    (hb : w.heap[g]? = some (.cells c T fz)) (h1 : R L x) (hc : c.toList = L) : SliceAt w R (.slice (some ⟨g, 0, none⟩) 1 1) [x] :=
  made_slice (n := L.length) [x] [L] (by intro K hK; simp at hK; rw [hK]) hb (by simp [hc]) rfl (one_R h1) (by simp only [List.length_cons, List.length_nil]; unfold maxLen; omega)
theorem i64_small {n : Int} (h : 0 ≤ n ∧ n ≤ 1000) : i64B n := ⟨by omega, by omega⟩
theorem len_small {X : Type} {l : List X} (h : l.length ≤ 1000) : l.length ≤ maxLen := by unfold maxLen; omega
def halvesX : Ex := .mk 6 [43] 0 [] [.mk 8 [] 0 [] [.mk 4 [120] 0 [] [], .mk 1 [] 1 [] []], .mk 1 [] 2 [] []]
def HalvesPost (w : World) (e : Ending) (w' : World) : Prop := ∃ L : List Value, e = .returned (.agg L.toArray) ∧ ExAt w' L halvesX ∧ Below w.heap.size w w'
theorem expr_size : (Tryz.prog.info? 25).map (·.size) = some 5 := by kernel_rfl
set_option maxRecDepth 100000 in
theorem halves_results {tmps : Array Value} {w : World} {N : Nat} {x0 x1 x2 x3 x4 : Value} (hp : tmps.getD 0 undef = .pointer (some ⟨N, 0, none⟩)) (hg : w.heap[N]? = some (.cells #[x0, x1, x2, x3, x4] 25 (0, 0))) :
    (results Tryz.f19 tmps).run Tryz.prog w = .ok (.agg #[x0, x1, x2, x3, x4]) w :=
  results_cell_row Tryz.results19 tmps w N 25 _ (0, 0) _ hp hg Tryz.underlying25 rfl expr_size
set_option maxHeartbeats 1000000 in
set_option maxRecDepth 100000 in
theorem halves_any (w : World) : Calls Tryz.prog 19 #[] w (HalvesPost w) := by
  go_enter Tryz.func19, Tryz.ntmps19
  go_wp2
  generalize hW : ((w.alloc (.cells #[.int .i64 6, .string ⟨#[43]⟩, .int .i64 0, .slice none 0 0, .slice (some ⟨w.heap.size + 1 + 1, 0, none⟩) 2 2] 25)).alloc (.cells #[.int .i64 4, .string ⟨#[120]⟩, .int .i64 0, .slice none 0 0, .slice none 0 0, .int .i64 1, .string ⟨#[]⟩, .int .i64 1, .slice none 0 0, .slice none 0 0] 25)).alloc (.cells #[.int .i64 8, .string ⟨#[]⟩, .int .i64 0, .slice none 0 0, .slice (some ⟨w.heap.size + 1, 0, none⟩) 2 2, .int .i64 1, .string ⟨#[]⟩, .int .i64 2, .slice none 0 0, .slice none 0 0] 25) = W
  have h0 : W.heap[w.heap.size]? = some (.cells #[.int .i64 6, .string ⟨#[43]⟩, .int .i64 0, .slice none 0 0, .slice (some ⟨w.heap.size + 1 + 1, 0, none⟩) 2 2] 25 (0, 0)) := by
    rw [← hW, Lib.alloc_old _ _ _ (by simp; omega), Lib.alloc_old _ _ _ (by simp), heap_alloc_new]
  have h1 : W.heap[w.heap.size + 1]? = some (.cells #[.int .i64 4, .string ⟨#[120]⟩, .int .i64 0, .slice none 0 0, .slice none 0 0, .int .i64 1, .string ⟨#[]⟩, .int .i64 1, .slice none 0 0, .slice none 0 0] 25 (0, 0)) := by
    rw [← hW, Lib.alloc_old _ _ _ (by simp)]
    have := heap_alloc_new (w.alloc (.cells #[.int .i64 6, .string ⟨#[43]⟩, .int .i64 0, .slice none 0 0, .slice (some ⟨w.heap.size + 1 + 1, 0, none⟩) 2 2] 25)) (.cells #[.int .i64 4, .string ⟨#[120]⟩, .int .i64 0, .slice none 0 0, .slice none 0 0, .int .i64 1, .string ⟨#[]⟩, .int .i64 1, .slice none 0 0, .slice none 0 0] 25)
    rwa [World.size_alloc] at this
  have h2 : W.heap[w.heap.size + 1 + 1]? = some (.cells #[.int .i64 8, .string ⟨#[]⟩, .int .i64 0, .slice none 0 0, .slice (some ⟨w.heap.size + 1, 0, none⟩) 2 2, .int .i64 1, .string ⟨#[]⟩, .int .i64 2, .slice none 0 0, .slice none 0 0] 25 (0, 0)) := by
    rw [← hW]
    have := heap_alloc_new ((w.alloc (.cells #[.int .i64 6, .string ⟨#[43]⟩, .int .i64 0, .slice none 0 0, .slice (some ⟨w.heap.size + 1 + 1, 0, none⟩) 2 2] 25)).alloc (.cells #[.int .i64 4, .string ⟨#[120]⟩, .int .i64 0, .slice none 0 0, .slice none 0 0, .int .i64 1, .string ⟨#[]⟩, .int .i64 1, .slice none 0 0, .slice none 0 0] 25)) (.cells #[.int .i64 8, .string ⟨#[]⟩, .int .i64 0, .slice none 0 0, .slice (some ⟨w.heap.size + 1, 0, none⟩) 2 2, .int .i64 1, .string ⟨#[]⟩, .int .i64 2, .slice none 0 0, .slice none 0 0] 25)
    simp only [World.size_alloc] at this
    exact this
  have hB : Below w.heap.size w W := by rw [← hW]; exact (((Below.refl _ _).alloc (Nat.le_refl _) _).alloc (by simp) _).alloc (by simp; omega) _
  have hx1 : ExAt W [.int .i64 4, .string (str [120]), .int .i64 0, .slice none 0 0, .slice none 0 0] (.mk 4 [120] 0 [] []) := ex_leaf W (i64_small (by omega)) (i64_small (by omega)) (len_small (by decide))
  have hx2 : ExAt W [.int .i64 1, .string (str []), .int .i64 1, .slice none 0 0, .slice none 0 0] (.mk 1 [] 1 [] []) := ex_leaf W (i64_small (by omega)) (i64_small (by omega)) (len_small (by decide))
  have hx3 : ExAt W [.int .i64 1, .string (str []), .int .i64 2, .slice none 0 0, .slice none 0 0] (.mk 1 [] 2 [] []) := ex_leaf W (i64_small (by omega)) (i64_small (by omega)) (len_small (by decide))
  have hs1 : SliceAt W (ExAt W) (.slice (some ⟨w.heap.size + 1, 0, none⟩) 2 2) [.mk 4 [120] 0 [] [], .mk 1 [] 1 [] []] :=
    made2 h1 hx1 hx2 rfl rfl
  have hx4 : ExAt W [.int .i64 8, .string (str []), .int .i64 0, .slice none 0 0, .slice (some ⟨w.heap.size + 1, 0, none⟩) 2 2] (.mk 8 [] 0 [] [.mk 4 [120] 0 [] [], .mk 1 [] 1 [] []]) := ex_node (i64_small (by omega)) (i64_small (by omega)) (len_small (by decide)) (strs_none W) hs1
  have hs2 : SliceAt W (ExAt W) (.slice (some ⟨w.heap.size + 1 + 1, 0, none⟩) 2 2) [.mk 8 [] 0 [] [.mk 4 [120] 0 [] [], .mk 1 [] 1 [] []], .mk 1 [] 2 [] []] :=
    made2 h2 hx4 hx3 rfl rfl
  have hx5 : ExAt W [.int .i64 6, .string (str [43]), .int .i64 0, .slice none 0 0, .slice (some ⟨w.heap.size + 1 + 1, 0, none⟩) 2 2] halvesX := ex_node (i64_small (by omega)) (i64_small (by omega)) (len_small (by decide)) (strs_none W) hs2
  exact bodyPost_ret (halves_results rfl h0) rfl ⟨_, rfl, hx5, hB⟩
def livesP : QProg := ⟨[], [⟨[102], [], [[120]], [[121]], [⟨⟨[[121]], halvesX⟩, []⟩]⟩]⟩
def livesS : ByteArray := ⟨#[110, 111, 100, 101, 32, 102, 32, 40, 32, 120, 32, 41, 32, 61, 32, 40, 32, 121, 32, 41, 32, 119, 104, 101, 114, 101, 32, 121, 32, 61, 32, 40, 32, 40, 32, 120, 32, 102, 98, 121, 32, 49, 32, 41, 32, 43, 32, 50, 32, 41, 32, 59, 32, 101, 110, 100]⟩
theorem lives_right : rightL false livesP = 0 := by kernel_rfl
theorem lives_text : str (spellL (progT livesP)) = ⟨#[110, 111, 100, 101, 32, 102, 32, 40, 32, 120, 32, 41, 32, 61, 32, 40, 32, 121, 32, 41, 32, 119, 104, 101, 114, 101, 32, 121, 32, 61, 32, 40, 32, 40, 32, 120, 32, 102, 98, 121, 32, 49, 32, 41, 32, 43, 32, 50, 32, 41, 32, 59, 32, 101, 110, 100]⟩ := by kernel_rfl
theorem lives_size : SizeOk (progT livesP) := show (putL false (progT livesP)).length ≤ 140737488355328 from of_decide_eq_true (by kernel_rfl)
theorem lives_few : ∀ x ∈ livesP.nodes, (nodeX x).length ≤ 1048576 := by intro x hx; simp [livesP] at hx; subst hx; exact of_decide_eq_true (by kernel_rfl)
/-- the program of the look lies in w as the program's literal lays it -/
theorem lives_at {w : World} {g1 g2 g3 g4 g5 : Nat} {L : List Value} {fz1 fz2 fz3 fz4 fz5 : Nat × Nat} {T1 T2 T3 T4 T5 : TypeId} (hE : ExAt w L halvesX)
    (h1 : w.heap[g1]? = some (.cells #[.string ⟨#[120]⟩] T1 fz1)) (h2 : w.heap[g2]? = some (.cells #[.string ⟨#[121]⟩] T2 fz2)) (h3 : w.heap[g3]? = some (.cells #[.string ⟨#[121]⟩] T3 fz3))
    {c4 : Array Value} (h4 : w.heap[g4]? = some (.cells c4 T4 fz4)) (e4 : c4.toList = .slice (some ⟨g3, 0, none⟩) 1 1 :: (L ++ [.slice none 0 0]))
    {c5 : Array Value} (h5 : w.heap[g5]? = some (.cells c5 T5 fz5)) (e5 : c5.toList = [.string ⟨#[102]⟩, .slice none 0 0, .slice (some ⟨g1, 0, none⟩) 1 1, .slice (some ⟨g2, 0, none⟩) 1 1, .slice (some ⟨g4, 0, none⟩) 1 1]) :
    ProgAt w [.slice none 0 0, .slice (some ⟨g5, 0, none⟩) 1 1] livesP := by
  have s1 : StrsAt w (.slice (some ⟨g1, 0, none⟩) 1 1) [[120]] := made1 h1 ⟨rfl, len_small (by decide)⟩ rfl
  have s2 : StrsAt w (.slice (some ⟨g2, 0, none⟩) 1 1) [[121]] := made1 h2 ⟨rfl, len_small (by decide)⟩ rfl
  have s3 : StrsAt w (.slice (some ⟨g3, 0, none⟩) 1 1) [[121]] := made1 h3 ⟨rfl, len_small (by decide)⟩ rfl
  have i4 : ItemAt w (.slice (some ⟨g3, 0, none⟩) 1 1 :: (L ++ [.slice none 0 0])) ⟨⟨[[121]], halvesX⟩, []⟩ :=
    ⟨.slice (some ⟨g3, 0, none⟩) 1 1 :: L, .slice none 0 0, rfl, ⟨_, L, rfl, s3, hE⟩, none, 0, rfl, Nat.le_refl _, by unfold maxLen; omega, fun i x h => by simp at h⟩
  have n5 : NodeAt w [.string ⟨#[102]⟩, .slice none 0 0, .slice (some ⟨g1, 0, none⟩) 1 1, .slice (some ⟨g2, 0, none⟩) 1 1, .slice (some ⟨g4, 0, none⟩) 1 1] ⟨[102], [], [[120]], [[121]], [⟨⟨[[121]], halvesX⟩, []⟩]⟩ :=
    ⟨_, _, _, _, rfl, len_small (by decide), strs_none w, s1, s2, made1 h4 i4 e4⟩
  exact ⟨_, _, rfl, ⟨none, 0, rfl, Nat.le_refl _, by unfold maxLen; omega, fun i x h => by simp [livesP] at h⟩, made1 h5 n5 e5⟩
theorem print_lives {w : World} (htab : Tab w) {g5 : Nat} (h : ProgAt w [.slice none 0 0, .slice (some ⟨g5, 0, none⟩) 1 1] livesP) :
    Calls Tryz.prog 17 #[.agg #[.slice none 0 0, .slice (some ⟨g5, 0, none⟩) 1 1]] w fun e w' => e = .returned (.tuple #[.string ⟨#[110, 111, 100, 101, 32, 102, 32, 40, 32, 120, 32, 41, 32, 61, 32, 40, 32, 121, 32, 41, 32, 119, 104, 101, 114, 101, 32, 121, 32, 61, 32, 40, 32, 40, 32, 120, 32, 102, 98, 121, 32, 49, 32, 41, 32, 43, 32, 50, 32, 41, 32, 59, 32, 101, 110, 100]⟩, .int .i64 0]) ∧ Below w.heap.size w w' := by
  refine (print_any (w0 := w) htab h lives_few lives_size (Below.refl _ _)).mono ?_
  rintro e w' ⟨rfl, hb⟩
  exact ⟨by rw [lives_right, if_pos rfl, lives_text], hb⟩
theorem size_halves {w0 : World} {L : List Value} (h : ExAt w0 L halvesX) (w : World) (hb : Below w0.heap.size w0 w) : Calls Tryz.prog 7 #[.agg L.toArray] w (IntPost 5 w) := by
  have := size_any h w hb
  rwa [show sizeW halvesX = 5 by kernel_rfl] at this
theorem depth_halves {w0 : World} {L : List Value} (h : ExAt w0 L halvesX) (w : World) (hb : Below w0.heap.size w0 w) : Calls Tryz.prog 9 #[.agg L.toArray] w (IntPost 3 w) := by
  have := depth_any h w hb
  rwa [show depthW halvesX = 3 by kernel_rfl] at this
theorem same_lives {w0 : World} {L : List Value} (h : ProgAt w0 L livesP) (w : World) (hb : Below w0.heap.size w0 w) : Calls Tryz.prog 20 #[.agg L.toArray, .agg L.toArray] w (BoolPost true w) := by
  have := same_any h h w hb
  rwa [(sameQProg_iff _ _).2 rfl] at this
theorem alloc_at {w : World} {o : Obj} {n : Nat} (h : w.heap.size = n) : (w.alloc o).heap[n]? = some o := by subst h; exact heap_alloc_new w o
theorem alloc_below {w : World} {o x : Obj} {n : Nat} (h : w.heap[n]? = some x) : (w.alloc o).heap[n]? = some x := (Lib.alloc_old w o n (lt_of_heap h)).trans h
theorem lives_world {w w1 : World} {o1 n1 : Int} {s1 : ByteArray} {A1 A2 : Option Addr} {m1 k1 m2 k2 : Nat} (htab : Tab w)
    (hb : Below (((w.alloc (.cells #[.string ⟨#[120]⟩] 9)).alloc (.cells #[.string ⟨#[121]⟩] 9)).alloc (.cells #[.string ⟨#[121]⟩] 9)).heap.size (((w.alloc (.cells #[.string ⟨#[120]⟩] 9)).alloc (.cells #[.string ⟨#[121]⟩] 9)).alloc (.cells #[.string ⟨#[121]⟩] 9)) w1)
    (hE : ExAt w1 [.int .i64 o1, .string s1, .int .i64 n1, .slice A1 m1 k1, .slice A2 m2 k2] halvesX) {W : World}
    (hW : W = ((w1.alloc (.cells #[.slice (some ⟨w.heap.size + 1 + 1, 0, none⟩) 1 1, .int .i64 o1, .string s1, .int .i64 n1, .slice A1 m1 k1, .slice A2 m2 k2, .slice none 0 0] 44)).alloc (.cells #[.string ⟨#[102]⟩, .slice none 0 0, .slice (some ⟨w.heap.size, 0, none⟩) 1 1, .slice (some ⟨w.heap.size + 1, 0, none⟩) 1 1, .slice (some ⟨w1.heap.size, 0, none⟩) 1 1] 47)).alloc (.cells #[.slice none 0 0, .slice (some ⟨w1.heap.size + 1, 0, none⟩) 1 1] 33)) :
    ProgAt W [.slice none 0 0, .slice (some ⟨w1.heap.size + 1, 0, none⟩) 1 1] livesP ∧ Tab W ∧ Below w.heap.size w W ∧ W.heap[w1.heap.size + 1 + 1]? = some (.cells #[.slice none 0 0, .slice (some ⟨w1.heap.size + 1, 0, none⟩) 1 1] 33 (0, 0)) := by
  have hb0 : Below w.heap.size w w1 := ((((Below.refl _ w).alloc (Nat.le_refl _) _).alloc (by simp) _).alloc (by simp; omega) _).trans (hb.mono (by simp; omega))
  have g1 : w1.heap[w.heap.size]? = some (.cells #[.string ⟨#[120]⟩] 9 (0, 0)) := (hb.block _ (by simp; omega)).trans (alloc_below (alloc_below (alloc_at rfl)))
  have g2 : w1.heap[w.heap.size + 1]? = some (.cells #[.string ⟨#[121]⟩] 9 (0, 0)) := (hb.block _ (by simp)).trans (alloc_below (alloc_at (by simp)))
  have g3 : w1.heap[w.heap.size + 1 + 1]? = some (.cells #[.string ⟨#[121]⟩] 9 (0, 0)) := (hb.block _ (by simp)).trans (alloc_at (by simp))
  have hB : Below w1.heap.size w1 W := by rw [hW]; exact (((Below.refl _ _).alloc (Nat.le_refl _) _).alloc (by simp) _).alloc (by simp; omega) _
  have f4 : W.heap[w1.heap.size]? = some (.cells #[.slice (some ⟨w.heap.size + 1 + 1, 0, none⟩) 1 1, .int .i64 o1, .string s1, .int .i64 n1, .slice A1 m1 k1, .slice A2 m2 k2, .slice none 0 0] 44 (0, 0)) := by rw [hW]; exact alloc_below (alloc_below (alloc_at rfl))
  have f5 : W.heap[w1.heap.size + 1]? = some (.cells #[.string ⟨#[102]⟩, .slice none 0 0, .slice (some ⟨w.heap.size, 0, none⟩) 1 1, .slice (some ⟨w.heap.size + 1, 0, none⟩) 1 1, .slice (some ⟨w1.heap.size, 0, none⟩) 1 1] 47 (0, 0)) := by rw [hW]; exact alloc_below (alloc_at (by simp))
  refine ⟨lives_at (hE.under hB) (box_next hB g1) (box_next hB g2) (box_next hB g3) f4 rfl f5 rfl, htab.under (hb0.trans (hB.mono hb0.size)), hb0.trans (hB.mono hb0.size), ?_⟩
  rw [hW]
  exact alloc_at (by simp)
def Lived (w : World) (e : Ending) (w' : World) : Prop := e = .returned (.bool true) ∧ Below w.heap.size w w'
set_option maxHeartbeats 2000000 in
set_option maxRecDepth 100000 in
theorem lives_any (w : World) (htab : Tab w) : Calls Tryz.prog 6 #[] w (Lived w) := by
  have HTB := Lib.hid htab
  clear htab
  go_enter Tryz.func6, Tryz.ntmps6
  go_wp2_with (first
    | (go_at_call 19
       have bp0 := BP.out
       refine (halves_any _).mono ?_
       rintro e w3 ⟨L, rfl, hE, hb3⟩
       have HE := Lib.hid hE
       obtain ⟨o3, s3, n3, A3, m3, k3, A4, m4, k4, rfl⟩ := hE.shape
       have bp := box_next hb3 bp0
       obtain ⟨x0, x1⟩ := row2 bp
       have BW3 := Lib.hid (BW.out.trans (hb3.mono BW.out.size))
       clear bp0 hE hb3 BP BW
       have BP := Lib.hid bp
       have BW := Lib.hid BW3.out
       clear bp BW3)
    | (go_at_call 19
       refine (halves_any _).mono ?_
       rintro e w1 ⟨L, rfl, hE, hb1⟩
       have HE := Lib.hid hE
       obtain ⟨o1, s1, n1, A1, m1, k1, A2, m2, k2, rfl⟩ := hE.shape
       have HB1 := Lib.hid hb1
       clear hE hb1)
    | (go_at_call 17
       obtain ⟨hp, ht, hbw, hbp⟩ := lives_world HTB.out HB1.out HE.out rfl
       refine (print_lives ht hp).mono ?_
       rintro e w2 ⟨rfl, hb2⟩
       have HP := Lib.hid hp
       have HBW := Lib.hid hbw
       have bp := box_next hb2 hbp
       obtain ⟨x0, x1⟩ := row2 bp
       have BP := Lib.hid bp
       have BW := Lib.hid hb2
       clear hp ht hbw hbp bp hb2 HE)
    | (go_at_call 7
       refine (size_halves HE.out _ (Below.refl _ _)).mono ?_
       rintro e w4 ⟨rfl, hb4⟩
       have bp := box_next hb4 BP.out
       obtain ⟨x0, x1⟩ := row2 bp
       have BW4 := Lib.hid (BW.out.trans (hb4.mono BW.out.size))
       clear hb4 BP BW HE
       have BP := Lib.hid bp
       have BW := Lib.hid BW4.out
       clear bp BW4)
    | (go_at_call 9
       refine (depth_halves HE.out _ (Below.refl _ _)).mono ?_
       rintro e w5 ⟨rfl, hb5⟩
       have bp := box_next hb5 BP.out
       obtain ⟨x0, x1⟩ := row2 bp
       have BW5 := Lib.hid (BW.out.trans (hb5.mono BW.out.size))
       clear hb5 BP BW HE
       have BP := Lib.hid bp
       have BW := Lib.hid BW5.out
       clear bp BW5)
    | (go_at_call 20
       refine (same_lives HP.out _ BW.out).mono ?_
       rintro e w6 ⟨rfl, hb6⟩))
  go_ret
  exact ⟨rfl, HBW.out.trans ((BW.out.trans (hb6.mono BW.out.size)).mono HBW.out.size)⟩
end Go.Proofs.YtjelhdjckdcbaaaGreatDoor
