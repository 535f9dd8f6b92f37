/-
  Texts joined.
-/
import Derived.Test.YtlhmdjhfmhkllaaGreatDoorKb25
import Derived.Test.YtlhmdjhfmhkllaaGreatDoorKb27
namespace Go.Proofs.YtlhmdjhfmhkllaaGreatDoor
open Go.RowKit
theorem tx_is {x s : Tx} (h : x = s) : ((str x).toList == s) = true := by rw [str_toL, h]; simp
theorem tx_not {x s : Tx} (h : ¬ x = s) : ((str x).toList == s) = false := by rw [str_toL]; simpa using h
set_option maxRecDepth 100000 in
set_option maxHeartbeats 4000000 in
theorem strength_any (x : Tx) (w : World) : Calls Tryz.prog 112 #[.string (str x)] w (IntPost (strongT x) w) := by
  by_cases h0 : x = arrowT
  · have e : strongT x = 1 := by rw [h0]; decide
    rw [e]; have b0 : ((str x).toList == [45, 62]) = true := tx_is h0; clear e h0; go_enter Tryz.func112, Tryz.ntmps112
    go_wp2; go_ret; exact ⟨rfl, Below.refl _ _⟩
  by_cases h1 : x = fbyT
  · have e : strongT x = 2 := by rw [h1]; decide
    rw [e]; have b0 : ((str x).toList == [45, 62]) = false := tx_not h0; have b1 : ((str x).toList == [102, 98, 121]) = true := tx_is h1; clear e h0 h1; go_enter Tryz.func112, Tryz.ntmps112
    go_wp2; go_ret; exact ⟨rfl, Below.refl _ _⟩
  by_cases h2 : x = orT
  · have e : strongT x = 3 := by rw [h2]; decide
    rw [e]; have b0 : ((str x).toList == [45, 62]) = false := tx_not h0; have b1 : ((str x).toList == [102, 98, 121]) = false := tx_not h1; have b2 : ((str x).toList == [111, 114]) = true := tx_is h2; clear e h0 h1 h2; go_enter Tryz.func112, Tryz.ntmps112
    go_wp2; go_ret; exact ⟨rfl, Below.refl _ _⟩
  by_cases h3 : x = andT
  · have e : strongT x = 4 := by rw [h3]; decide
    rw [e]; have b0 : ((str x).toList == [45, 62]) = false := tx_not h0; have b1 : ((str x).toList == [102, 98, 121]) = false := tx_not h1; have b2 : ((str x).toList == [111, 114]) = false := tx_not h2; have b3 : ((str x).toList == [97, 110, 100]) = true := tx_is h3; clear e h0 h1 h2 h3; go_enter Tryz.func112, Tryz.ntmps112
    go_wp2; go_ret; exact ⟨rfl, Below.refl _ _⟩
  by_cases h4 : x = [60]
  · have e : strongT x = 5 := by rw [h4]; decide
    rw [e]; have b0 : ((str x).toList == [45, 62]) = false := tx_not h0; have b1 : ((str x).toList == [102, 98, 121]) = false := tx_not h1; have b2 : ((str x).toList == [111, 114]) = false := tx_not h2; have b3 : ((str x).toList == [97, 110, 100]) = false := tx_not h3; have b4 : ((str x).toList == [60]) = true := tx_is h4; clear e h0 h1 h2 h3 h4; go_enter Tryz.func112, Tryz.ntmps112
    go_wp2; go_ret; exact ⟨rfl, Below.refl _ _⟩
  by_cases h5 : x = [60, 61]
  · have e : strongT x = 5 := by rw [h5]; decide
    rw [e]; have b0 : ((str x).toList == [45, 62]) = false := tx_not h0; have b1 : ((str x).toList == [102, 98, 121]) = false := tx_not h1; have b2 : ((str x).toList == [111, 114]) = false := tx_not h2; have b3 : ((str x).toList == [97, 110, 100]) = false := tx_not h3; have b4 : ((str x).toList == [60]) = false := tx_not h4; have b5 : ((str x).toList == [60, 61]) = true := tx_is h5; clear e h0 h1 h2 h3 h4 h5; go_enter Tryz.func112, Tryz.ntmps112
    go_wp2; go_ret; exact ⟨rfl, Below.refl _ _⟩
  by_cases h6 : x = [61]
  · have e : strongT x = 5 := by rw [h6]; decide
    rw [e]; have b0 : ((str x).toList == [45, 62]) = false := tx_not h0; have b1 : ((str x).toList == [102, 98, 121]) = false := tx_not h1; have b2 : ((str x).toList == [111, 114]) = false := tx_not h2; have b3 : ((str x).toList == [97, 110, 100]) = false := tx_not h3; have b4 : ((str x).toList == [60]) = false := tx_not h4; have b5 : ((str x).toList == [60, 61]) = false := tx_not h5; have b6 : ((str x).toList == [61]) = true := tx_is h6; clear e h0 h1 h2 h3 h4 h5 h6; go_enter Tryz.func112, Tryz.ntmps112
    go_wp2; go_ret; exact ⟨rfl, Below.refl _ _⟩
  by_cases h7 : x = [60, 62]
  · have e : strongT x = 5 := by rw [h7]; decide
    rw [e]; have b0 : ((str x).toList == [45, 62]) = false := tx_not h0; have b1 : ((str x).toList == [102, 98, 121]) = false := tx_not h1; have b2 : ((str x).toList == [111, 114]) = false := tx_not h2; have b3 : ((str x).toList == [97, 110, 100]) = false := tx_not h3; have b4 : ((str x).toList == [60]) = false := tx_not h4; have b5 : ((str x).toList == [60, 61]) = false := tx_not h5; have b6 : ((str x).toList == [61]) = false := tx_not h6; have b7 : ((str x).toList == [60, 62]) = true := tx_is h7; clear e h0 h1 h2 h3 h4 h5 h6 h7; go_enter Tryz.func112, Tryz.ntmps112
    go_wp2; go_ret; exact ⟨rfl, Below.refl _ _⟩
  by_cases h8 : x = [43]
  · have e : strongT x = 6 := by rw [h8]; decide
    rw [e]; have b0 : ((str x).toList == [45, 62]) = false := tx_not h0; have b1 : ((str x).toList == [102, 98, 121]) = false := tx_not h1; have b2 : ((str x).toList == [111, 114]) = false := tx_not h2; have b3 : ((str x).toList == [97, 110, 100]) = false := tx_not h3; have b4 : ((str x).toList == [60]) = false := tx_not h4; have b5 : ((str x).toList == [60, 61]) = false := tx_not h5; have b6 : ((str x).toList == [61]) = false := tx_not h6; have b7 : ((str x).toList == [60, 62]) = false := tx_not h7; have b8 : ((str x).toList == [43]) = true := tx_is h8; clear e h0 h1 h2 h3 h4 h5 h6 h7 h8; go_enter Tryz.func112, Tryz.ntmps112
    go_wp2; go_ret; exact ⟨rfl, Below.refl _ _⟩
  by_cases h9 : x = [45]
  · have e : strongT x = 6 := by rw [h9]; decide
    rw [e]; have b0 : ((str x).toList == [45, 62]) = false := tx_not h0; have b1 : ((str x).toList == [102, 98, 121]) = false := tx_not h1; have b2 : ((str x).toList == [111, 114]) = false := tx_not h2; have b3 : ((str x).toList == [97, 110, 100]) = false := tx_not h3; have b4 : ((str x).toList == [60]) = false := tx_not h4; have b5 : ((str x).toList == [60, 61]) = false := tx_not h5; have b6 : ((str x).toList == [61]) = false := tx_not h6; have b7 : ((str x).toList == [60, 62]) = false := tx_not h7; have b8 : ((str x).toList == [43]) = false := tx_not h8; have b9 : ((str x).toList == [45]) = true := tx_is h9; clear e h0 h1 h2 h3 h4 h5 h6 h7 h8 h9; go_enter Tryz.func112, Tryz.ntmps112
    go_wp2; go_ret; exact ⟨rfl, Below.refl _ _⟩
  by_cases h10 : x = [42]
  · have e : strongT x = 7 := by rw [h10]; decide
    rw [e]; have b0 : ((str x).toList == [45, 62]) = false := tx_not h0; have b1 : ((str x).toList == [102, 98, 121]) = false := tx_not h1; have b2 : ((str x).toList == [111, 114]) = false := tx_not h2; have b3 : ((str x).toList == [97, 110, 100]) = false := tx_not h3; have b4 : ((str x).toList == [60]) = false := tx_not h4; have b5 : ((str x).toList == [60, 61]) = false := tx_not h5; have b6 : ((str x).toList == [61]) = false := tx_not h6; have b7 : ((str x).toList == [60, 62]) = false := tx_not h7; have b8 : ((str x).toList == [43]) = false := tx_not h8; have b9 : ((str x).toList == [45]) = false := tx_not h9; have b10 : ((str x).toList == [42]) = true := tx_is h10; clear e h0 h1 h2 h3 h4 h5 h6 h7 h8 h9 h10; go_enter Tryz.func112, Tryz.ntmps112
    go_wp2; go_ret; exact ⟨rfl, Below.refl _ _⟩
  by_cases h11 : x = [47]
  · have e : strongT x = 7 := by rw [h11]; decide
    rw [e]; have b0 : ((str x).toList == [45, 62]) = false := tx_not h0; have b1 : ((str x).toList == [102, 98, 121]) = false := tx_not h1; have b2 : ((str x).toList == [111, 114]) = false := tx_not h2; have b3 : ((str x).toList == [97, 110, 100]) = false := tx_not h3; have b4 : ((str x).toList == [60]) = false := tx_not h4; have b5 : ((str x).toList == [60, 61]) = false := tx_not h5; have b6 : ((str x).toList == [61]) = false := tx_not h6; have b7 : ((str x).toList == [60, 62]) = false := tx_not h7; have b8 : ((str x).toList == [43]) = false := tx_not h8; have b9 : ((str x).toList == [45]) = false := tx_not h9; have b10 : ((str x).toList == [42]) = false := tx_not h10; have b11 : ((str x).toList == [47]) = true := tx_is h11; clear e h0 h1 h2 h3 h4 h5 h6 h7 h8 h9 h10 h11; go_enter Tryz.func112, Tryz.ntmps112
    go_wp2; go_ret; exact ⟨rfl, Below.refl _ _⟩
  by_cases h12 : x = [37]
  · have e : strongT x = 7 := by rw [h12]; decide
    rw [e]; have b0 : ((str x).toList == [45, 62]) = false := tx_not h0; have b1 : ((str x).toList == [102, 98, 121]) = false := tx_not h1; have b2 : ((str x).toList == [111, 114]) = false := tx_not h2; have b3 : ((str x).toList == [97, 110, 100]) = false := tx_not h3; have b4 : ((str x).toList == [60]) = false := tx_not h4; have b5 : ((str x).toList == [60, 61]) = false := tx_not h5; have b6 : ((str x).toList == [61]) = false := tx_not h6; have b7 : ((str x).toList == [60, 62]) = false := tx_not h7; have b8 : ((str x).toList == [43]) = false := tx_not h8; have b9 : ((str x).toList == [45]) = false := tx_not h9; have b10 : ((str x).toList == [42]) = false := tx_not h10; have b11 : ((str x).toList == [47]) = false := tx_not h11; have b12 : ((str x).toList == [37]) = true := tx_is h12; clear e h0 h1 h2 h3 h4 h5 h6 h7 h8 h9 h10 h11 h12; go_enter Tryz.func112, Tryz.ntmps112
    go_wp2; go_ret; exact ⟨rfl, Below.refl _ _⟩
  have e : strongT x = 0 := (by unfold strongT; simp [h0, h1, h2, h3, h4, h5, h6, h7, h8, h9, h10, h11, h12]); rw [e]; have b0 : ((str x).toList == [45, 62]) = false := tx_not h0; have b1 : ((str x).toList == [102, 98, 121]) = false := tx_not h1; have b2 : ((str x).toList == [111, 114]) = false := tx_not h2; have b3 : ((str x).toList == [97, 110, 100]) = false := tx_not h3; have b4 : ((str x).toList == [60]) = false := tx_not h4; have b5 : ((str x).toList == [60, 61]) = false := tx_not h5; have b6 : ((str x).toList == [61]) = false := tx_not h6; have b7 : ((str x).toList == [60, 62]) = false := tx_not h7; have b8 : ((str x).toList == [43]) = false := tx_not h8; have b9 : ((str x).toList == [45]) = false := tx_not h9; have b10 : ((str x).toList == [42]) = false := tx_not h10; have b11 : ((str x).toList == [47]) = false := tx_not h11; have b12 : ((str x).toList == [37]) = false := tx_not h12; clear e h0 h1 h2 h3 h4 h5 h6 h7 h8 h9 h10 h11 h12; go_enter Tryz.func112, Tryz.ntmps112
  go_wp2; go_ret; exact ⟨rfl, Below.refl _ _⟩
theorem off_same {B : Nat} {ob : Option Nat} {w w' : World} (h : Same B w w') : Sub (offW B ob w) (offW B ob w') := fun a u hu => by
  obtain ⟨g1, g2, g3⟩ := off_cell hu
  rw [off_mk g1 g2, World.cell?_of_block (h.2 _ g1 (World.block_lt_of_cell? w _ g3))]
  exact g3
theorem off_set5 {B K : Nat} {w : World} (x y z u v : Value) : Sub (offW B (some K) w) (offW B (some K) (((((w.setCell ⟨K, 0, none⟩ x).setCell ⟨K, 1, none⟩ y).setCell ⟨K, 2, none⟩ z).setCell ⟨K, 3, none⟩ u).setCell ⟨K, 4, none⟩ v)) := fun a u hu => by
  obtain ⟨g1, g2, g3⟩ := off_cell hu
  rw [off_mk g1 g2, cell_set5 (fun e => g2 (by rw [e]))]
  exact g3
def OpPost (B : Nat) (ob : Option Nat) (x : Ex) (w : World) (e : Ending) (w' : World) : Prop := ∃ L : List Value, e = .returned (.agg L.toArray) ∧ ExAt (offW B ob w') L x ∧ Below w.heap.size w w'
set_option maxRecDepth 100000 in
theorem operate_results {tmps : Array Value} {w : World} {N : Nat} {x0 x1 x2 x3 x4 : Value} (hp : tmps.getD 6 undef = .pointer (some ⟨N, 0, none⟩)) (hg : w.heap[N]? = some (.cells #[x0, x1, x2, x3, x4] 37 (0, 0))) :
    (results Tryz.f114 tmps).run Tryz.prog w = .ok (.agg #[x0, x1, x2, x3, x4]) w :=
  results_cell_row Tryz.results114 tmps w N 37 _ (0, 0) _ hp hg Tryz.underlying37 rfl tokres_infoE
set_option maxRecDepth 100000 in
set_option maxHeartbeats 4000000 in
theorem operate_any {w : World} {B : Nat} {ob : Option Nat} (hB : B ≤ w.heap.size) (hob : ∀ g, ob = some g → g < w.heap.size) {s : Tx} (hs : s.length ≤ maxLen) {L2 L4 : List Value} {a b : Ex} (h2 : ExAt (offW B ob w) L2 a) (h4 : ExAt (offW B ob w) L4 b) : Calls Tryz.prog 114 #[.string (str s), .agg L2.toArray, .agg L4.toArray] w (OpPost B ob (operE s a b) w) := by
  have HX2 := Lib.hid h2; have HX4 := Lib.hid h4; obtain ⟨o2, s2, n2, A2, m2, k2, B2, j2, l2, rfl⟩ := h2.shape; obtain ⟨o4, s4, n4, A4, m4, k4, B4, j4, l4, rfl⟩ := h4.shape; clear h2 h4; by_cases h0 : s = arrowT
  · have e : operE s a b = .mk 10 [] 0 [] [a, b] := by unfold operE; rw [if_pos h0]
    rw [e]; have b0 : ((str s).toList == [45, 62]) = true := tx_is h0; clear e h0; go_enter Tryz.func114, Tryz.ntmps114
    go_wp2; exact bodyPost_ret (operate_results rfl (alloc_below (alloc_at (by simp)))) rfl ⟨[.int .i64 10, .string ⟨#[]⟩, .int .i64 0, .slice none 0 0, .slice (some ⟨w.heap.size + 1 + 1 + 1, 0, none⟩) 2 2], rfl, ex_node (nm := []) (by constructor <;> omega) (by constructor <;> omega) (by simp [maxLen]) (strs_none _) (made2 ((off_get (by omega) (fun e => by have := hob _ e; omega)).trans (alloc_at (by simp))) (HX2.out.sub (off_same (((((Same.refl B w).alloc _).alloc _).alloc _).alloc _))) (HX4.out.sub (off_same (((((Same.refl B w).alloc _).alloc _).alloc _).alloc _))) rfl rfl), ((((Below.refl _ _).alloc (Nat.le_refl _) _).alloc (by simp) _).alloc (by simp; omega) _).alloc (by simp; omega) _⟩
  by_cases h1 : s = fbyT
  · have e : operE s a b = .mk 8 [] 0 [] [a, b] := by unfold operE; rw [if_neg h0, if_pos h1]
    rw [e]; have b0 : ((str s).toList == [45, 62]) = false := tx_not h0; have b1 : ((str s).toList == [102, 98, 121]) = true := tx_is h1; clear e h0 h1; go_enter Tryz.func114, Tryz.ntmps114
    go_wp2; exact bodyPost_ret (operate_results rfl (alloc_below (alloc_at (by simp)))) rfl ⟨[.int .i64 8, .string ⟨#[]⟩, .int .i64 0, .slice none 0 0, .slice (some ⟨w.heap.size + 1 + 1 + 1, 0, none⟩) 2 2], rfl, ex_node (nm := []) (by constructor <;> omega) (by constructor <;> omega) (by simp [maxLen]) (strs_none _) (made2 ((off_get (by omega) (fun e => by have := hob _ e; omega)).trans (alloc_at (by simp))) (HX2.out.sub (off_same (((((Same.refl B w).alloc _).alloc _).alloc _).alloc _))) (HX4.out.sub (off_same (((((Same.refl B w).alloc _).alloc _).alloc _).alloc _))) rfl rfl), ((((Below.refl _ _).alloc (Nat.le_refl _) _).alloc (by simp) _).alloc (by simp; omega) _).alloc (by simp; omega) _⟩
  · have e : operE s a b = .mk 6 s 0 [] [a, b] := by unfold operE; rw [if_neg h0, if_neg h1]
    rw [e]; have b0 : ((str s).toList == [45, 62]) = false := tx_not h0; have b1 : ((str s).toList == [102, 98, 121]) = false := tx_not h1; clear e h0 h1; go_enter Tryz.func114, Tryz.ntmps114
    go_wp2; exact bodyPost_ret (operate_results rfl (alloc_below (alloc_at (by simp)))) rfl ⟨[.int .i64 6, .string (str s), .int .i64 0, .slice none 0 0, .slice (some ⟨w.heap.size + 1 + 1 + 1, 0, none⟩) 2 2], rfl, ex_node (nm := s) (by constructor <;> omega) (by constructor <;> omega) hs (strs_none _) (made2 ((off_get (by omega) (fun e => by have := hob _ e; omega)).trans (alloc_at (by simp))) (HX2.out.sub (off_same (((((Same.refl B w).alloc _).alloc _).alloc _).alloc _))) (HX4.out.sub (off_same (((((Same.refl B w).alloc _).alloc _).alloc _).alloc _))) rfl rfl), ((((Below.refl _ _).alloc (Nat.le_refl _) _).alloc (by simp) _).alloc (by simp; omega) _).alloc (by simp; omega) _⟩
set_option maxRecDepth 100000 in
theorem operation_results {tmps : Array Value} {w : World} {N : Nat} {x0 x1 x2 x3 x4 : Value} (hp : tmps.getD 4 undef = .pointer (some ⟨N, 0, none⟩)) (hg : w.heap[N]? = some (.cells #[x0, x1, x2, x3, x4] 37 (0, 0))) :
    (results Tryz.f64 tmps).run Tryz.prog w = .ok (.agg #[x0, x1, x2, x3, x4]) w :=
  results_cell_row Tryz.results64 tmps w N 37 _ (0, 0) _ hp hg Tryz.underlying37 rfl tokres_infoE
theorem wrap_small {s : Nat} (h : s ≤ 8) : IntKind.i64.wrap ((s : Int) + 1) = (s : Int) + 1 := by
  have : ∀ s : Fin 9, IntKind.i64.wrap ((s.1 : Int) + 1) = (s.1 : Int) + 1 := by decide
  exact this ⟨s, by omega⟩
def OpOk (g s : Nat) : Prop := ∀ (N G o : Nat) (ts : List Tok) (q : Out Ex), opX g s ts o = some q → ∀ w, PState w N G ts o → Calls Tryz.prog 64 #[.pointer (some ⟨N, 0, none⟩), .int .i64 s] w (PPost REx N G o q w)
theorem op_this {g s : Nat} (h : OpOk g s) (N G o : Nat) (ts : List Tok) (q : Out Ex) (hq : opX g s ts o = some q) (w : World) (hp : PState w N G ts o) : Calls Tryz.prog 64 #[.pointer (some ⟨N, 0, none⟩), .int .i64 s] w (PPost REx N G o q w) := h N G o ts q hq w hp
theorem op_next {g s : Nat} (h : OpOk g (s + 1)) (N G o : Nat) (ts : List Tok) (q : Out Ex) (hq : opX g (s + 1) ts o = some q) (w : World) (hp : PState w N G ts o) : Calls Tryz.prog 64 #[.pointer (some ⟨N, 0, none⟩), .int .i64 ((s : Int) + 1)] w (PPost REx N G o q w) := h N G o ts q hq w hp
set_option maxRecDepth 100000 in
set_option maxHeartbeats 4000000 in
theorem operation_any {fu : Nat} (HO : ∀ g, g ≤ fu → ∀ s, 1 ≤ s → s ≤ 8 → OpOk g s) (HU : PartOk 111 REx (fun o ts => unX fu ts o)) (s : Nat) (h1 : 1 ≤ s) (h8 : s ≤ 8) : OpOk (fu + 1) s := by
  intro N G o ts q hq w h; have hq : (if s = 8 then unX fu ts o else bindP (opX fu (s + 1) ts o) fun e ts => loopX fu s e ts o) = some q := (by rw [opX] at hq; exact hq); have HP0 := Lib.hid h; have HK0 := Lib.hid (KeptN.refl N w); have HJ0 := Lib.hid (KeptN.refl N (w.alloc (.cells #[.int .i64 0, .string ⟨#[]⟩, .int .i64 0, .slice none 0 0, .slice none 0 0] 37))); have HUU := Lib.hid HU; have HOO := Lib.hid HO; have hN := h.lt; have hG := h.2.2.1; clear h HO HU; by_cases h0 : s = 8
  · rw [if_pos h0] at hq; replace hq : bindP _ _ = some q := (bindP_id _).trans hq; have HQ0 := Lib.hid hq; subst h0; clear hq h1 h8; go_enter Tryz.func64, Tryz.ntmps64
    go_wp2_with (go_at_call 111
                 rcases bindP_some HQ0.out with ⟨f, hf, rfl⟩ | ⟨x1, ts1, h1, hq1⟩
                 · (with_reducible refine (HUU.out N G o _ _ hf _ (HP0.out.under (((Below.refl _ _).alloc (by simp) _)))).mono ?_); rintro e w7 ⟨rfl, hk7⟩; exact ⟨rfl, rfl, (HK0.out.alloc _).trans hk7⟩
                 (with_reducible refine (HUU.out N G o _ _ h1 _ (HP0.out.under (((Below.refl _ _).alloc (by simp) _)))).mono ?_); rintro e w7 ⟨v1, rfl, hr7, hp7, hk7⟩; obtain ⟨V1, rfl⟩ : ∃ W, W = w7 := ⟨_, rfl⟩; have HQ1 := Lib.hid hq1; have HP1 := Lib.hid hp7; have HK1 := Lib.hid ((HK0.out.alloc _).trans hk7); have HJ1 := Lib.hid (HJ0.out.trans hk7); obtain ⟨L1, rfl, hx⟩ := hr7; have HX1 := Lib.hid hx; obtain ⟨o1, s1, n1, A1, m1, k1, B1, j1, l1, rfl⟩ := hx.shape; clear hx; cases HQ1.out; have g1 : w.heap.size < V1.heap.size := (by have := HJ1.out.size; simp at this; omega); have BR := Lib.hid (hk7.cells (heap_alloc_new w (.cells #[.int .i64 0, .string ⟨#[]⟩, .int .i64 0, .slice none 0 0, .slice none 0 0] 37)) (by omega)); obtain ⟨r0, r1, r2, r3, r4⟩ := row5 BR.out; have f0 := row_frozen BR.out 0; have f1 := row_frozen BR.out 1; have f2 := row_frozen BR.out 2; have f3 := row_frozen BR.out 3; have f4 := row_frozen BR.out 4; clear hq1 hp7 hk7 h1)
    exact bodyPost_ret (operation_results rfl (set_row5 _ _ _ _ _ BR.out)) rfl ⟨_, rfl, ⟨_, rfl, HX1.out.lift ((Same.refl _ V1).set5 (.inl (by simp)) _ _ _ _ _) (by simp)⟩, (HP1.out.set5 (by omega) (by omega) _ _ _ _ _), HK1.out.set5 (Nat.le_refl _) _ _ _ _ _⟩
  · rw [if_neg h0] at hq; have HQ0 := Lib.hid hq; have hs8 : ((s : Int) == 8) = false := (by simp; omega); have hsb : (s : Int) ≤ 8 := (by omega); have hsn : (0 : Int) ≤ (s : Int) := (by omega); have HS := Lib.hid (And.intro h1 (And.intro h8 h0)); clear hq h1 h8 h0; go_enter Tryz.func64, Tryz.ntmps64
    go_wp2_with (go_at_call 64
                 rcases bindP_some HQ0.out with ⟨f, hf, rfl⟩ | ⟨x1, ts1, h1, hq1⟩
                 · (with_reducible refine (op_next (HOO.out fu (Nat.le_refl fu) (s + 1) (by have := HS.out; omega) (by have := HS.out; omega)) N G o _ _ hf _ (HP0.out.under (((Below.refl _ _).alloc (by simp) _)))).mono ?_); rintro e w7 ⟨rfl, hk7⟩; exact ⟨rfl, rfl, (HK0.out.alloc _).trans hk7⟩
                 (with_reducible refine (op_next (HOO.out fu (Nat.le_refl fu) (s + 1) (by have := HS.out; omega) (by have := HS.out; omega)) N G o _ _ h1 _ (HP0.out.under (((Below.refl _ _).alloc (by simp) _)))).mono ?_); rintro e w7 ⟨v1, rfl, hr7, hp7, hk7⟩; obtain ⟨V1, rfl⟩ : ∃ W, W = w7 := ⟨_, rfl⟩; have HQ1 := Lib.hid hq1; have HP1 := Lib.hid hp7; have HK1 := Lib.hid ((HK0.out.alloc _).trans hk7); have HJ1 := Lib.hid (HJ0.out.trans hk7); obtain ⟨L1, rfl, hx⟩ := hr7; have HX1 := Lib.hid hx; obtain ⟨o1, s1, n1, A1, m1, k1, B1, j1, l1, rfl⟩ := hx.shape; clear hx; have g1 : w.heap.size < V1.heap.size := (by have := HJ1.out.size; simp at this; omega); have BR := Lib.hid (hk7.cells (heap_alloc_new w (.cells #[.int .i64 0, .string ⟨#[]⟩, .int .i64 0, .slice none 0 0, .slice none 0 0] 37)) (by omega)); clear hq1 hp7 hk7 h1)
    have HE1 := Lib.hid (HX1.out.sub (new_off (B := w.heap.size + 1) (ob := some V1.heap.size) ((Same.refl _ V1).alloc (.cells #[.int .i64 o1, .string s1, .int .i64 n1, .slice A1 m1 k1, .slice B1 j1 l1] 37)) (by simp) (fun g hg => .inr (by injection hg with hg; omega)))); have HG1 := Lib.hid g1; clear g1; go_loopg [6] fu (fun g v wr => ∃ (m : Nat) (e : Ex) (ts' : List Tok) (L : List Value), m = g ∧ m ≤ fu ∧ loopX m s e ts' o = some q ∧ wr.heap[V1.heap.size]? = some (.cells L.toArray 37 (0, 0)) ∧ ExAt (offW (w.heap.size + 1) (some V1.heap.size) wr) L e ∧ wr.heap[w.heap.size]? = some (.cells #[.int .i64 0, .string ⟨#[]⟩, .int .i64 0, .slice none 0 0, .slice none 0 0] 37) ∧ PState wr N G ts' o ∧ KeptN N w wr)
    case atStart => exact ⟨fu, x1, ts1, _, rfl, Nat.le_refl _, HQ1.out, heap_alloc_new V1 _, HE1.out, alloc_below BR.out, HP1.out.under ((Below.refl _ _).alloc (Nat.le_refl _) _), HK1.out.alloc _⟩
    case round =>
      obtain ⟨wq, rfl⟩ : ∃ W, W = wr := ⟨_, rfl⟩; obtain ⟨m, eL, ts2, L, rfl, hmf, hlx, hbk, hL, hbr, hp, hk⟩ := hrel; obtain ⟨oL, sL, nL, AL, mL, kL, BL, jL, lL, rfl⟩ := hL.shape; have HEq := Lib.hid hL; have BKq := Lib.hid hbk; have BRq := Lib.hid hbr; have HPq := Lib.hid hp; have HKq := Lib.hid hk; have hKN : V1.heap.size ≠ N := (by have := HG1.out; omega); have hRN : w.heap.size ≠ N := (by omega); have hKR : V1.heap.size ≠ w.heap.size := (by have := HG1.out; omega); have j1 := tok_f1; have hwr := wrap_small HS.out.2.1; clear hL hbk hbr hp hk; cases m with
      | zero => rw [loopX] at hlx; cases hlx
      | succ m =>
        cases ts2 with
        | nil => rw [loopX] at hlx; cases hlx
        | cons t r =>
          rw [loopX] at hlx; have hmf : m ≤ fu := (by omega); have HTL := Lib.hid (by obtain ⟨_, _, _, _, _, _, _, _, _, _, _, _, h, _⟩ := HPq.out.head; exact h : t.text.length ≤ maxLen); by_cases ht : strongT t.text = s
          · rw [if_pos ht] at hlx; have hr : r ≠ [] := fun e => by rw [if_pos e] at hlx; cases hlx
            rw [if_neg hr] at hlx; have hcmp : (((strongT t.text : Nat) : Int) == (s : Int)) = true := (by rw [ht]; simp); clear ht; by_cases h12 : s = 1 ∨ s = 2
            · rw [if_pos h12] at hlx; have HQ4 := Lib.hid hlx; clear hlx; by_cases hs1 : s = 1
              · have c1 : ((s : Int) == 1) = true := by rw [hs1]; rfl
                clear hs1 h12
                go_wp2_with (first
                  | (go_at_call 40; (with_reducible refine (next_any HPq.out).mono ?_); rintro e w7 ⟨rfl, hb7⟩; obtain ⟨V2, rfl⟩ : ∃ W, W = w7 := ⟨_, rfl⟩; have HP2 := Lib.hid (HPq.out.under hb7); have HJ2 := Lib.hid (KeptN.of_below (N := N) hb7); simp only [Tok.cells]; clear hb7)
                  | (go_at_call 112; (with_reducible refine (strength_any _ _).mono ?_); rintro e w7 ⟨rfl, hb7⟩; obtain ⟨V3, rfl⟩ : ∃ W, W = w7 := ⟨_, rfl⟩; have HP3 := Lib.hid (HP2.out.under hb7); have HJ3 := Lib.hid (HJ2.out.trans (KeptN.of_below hb7)); clear hb7)
                  | (go_at_call 113; (with_reducible refine (take_any HP3.out hr).mono ?_); rintro e w7 ⟨rfl, hp7, hk7⟩; obtain ⟨V4, rfl⟩ : ∃ W, W = w7 := ⟨_, rfl⟩; have HJ4 := Lib.hid (HJ3.out.trans hk7); have HP4 := Lib.hid hp7; have HK4 := Lib.hid (HKq.out.trans HJ4.out); have BK4 := Lib.hid (HJ4.out.cells BKq.out hKN); obtain ⟨p0, p1, p2, p3, p4⟩ := row5 BK4.out; simp only [Tok.cells]; clear hp7 hk7))
                refine wp_region_held_drew (S := (fun W => W.cell? ⟨V1.heap.size, 0, none⟩ = some (.int .i64 oL) ∧ W.cell? ⟨V1.heap.size, 1, none⟩ = some (.string sL) ∧ W.cell? ⟨V1.heap.size, 2, none⟩ = some (.int .i64 nL) ∧ W.cell? ⟨V1.heap.size, 3, none⟩ = some (.slice AL mL kL) ∧ W.cell? ⟨V1.heap.size, 4, none⟩ = some (.slice BL jL lL))) (by kernel_rfl) ?_ (fun hHeld => ?_)
                · (try dsimp only); go_keep
                refine take_now 0 rfl ?_; try simp only [Act.put, setA, setZ, setS]
                refine take_now 1 rfl ?_; try simp only [Act.put, setA, setZ, setS]
                refine take_now 2 rfl ?_; try simp only [Act.put, setA, setZ, setS]
                refine take_now 3 rfl ?_; try simp only [Act.put, setA, setZ, setS]
                refine only_at 4 (by kernel_rfl) rfl (fun K hK => ?_); go_simp
                (go_at_call 64
                 rcases bindP_some HQ4.out with ⟨f, hf, rfl⟩ | ⟨x5, ts5, h5, hq5⟩
                 · (with_reducible refine (op_this (HOO.out m hmf s HS.out.1 HS.out.2.1) N G o _ _ hf _ (HP4.out.under ((Below.refl _ _).drew))).mono ?_); rintro e w7 ⟨rfl, hk7⟩; exact ⟨rfl, rfl, (HK4.out.trans (KeptN.of_below ((Below.refl _ _).drew))).trans hk7⟩
                 (with_reducible refine (op_this (HOO.out m hmf s HS.out.1 HS.out.2.1) N G o _ _ h5 _ (HP4.out.under ((Below.refl _ _).drew))).mono ?_); rintro e w7 ⟨v5, rfl, hr7, hp7, hk7⟩; obtain ⟨V5, rfl⟩ : ∃ W, W = w7 := ⟨_, rfl⟩; have HQ5 := Lib.hid hq5; have HP5 := Lib.hid hp7; have HK5 := Lib.hid ((HK4.out.trans (KeptN.of_below ((Below.refl _ _).drew))).trans hk7); have HJ5 := Lib.hid ((HJ4.out.trans (KeptN.of_below ((Below.refl _ _).drew))).trans hk7); obtain ⟨L5, rfl, hx⟩ := hr7; have HF5 := Lib.hid (hx.sub (new_off (B := w.heap.size + 1) (ob := some V1.heap.size) (Same.refl _ V5) (by have := HG1.out; have := lt_of_heap BK4.out; show w.heap.size + 1 ≤ V4.heap.size; omega) (fun g hg => .inl (by injection hg with hg; have := lt_of_heap BK4.out; show g < V4.heap.size; omega)))); obtain ⟨o5, s5, n5, A5, m5, k5, B5, j5, l5, rfl⟩ := hx.shape; clear hx; have BK5 := Lib.hid (hk7.cells (show V4.drew.heap[_]? = _ from BK4.out) hKN); have HKK5 := Lib.hid (And.intro (show V1.heap.size ≤ V5.heap.size from Nat.le_of_lt (lt_of_heap BK5.out)) True.intro); have HE5 := Lib.hid (HEq.out.sub (off_same (HJ5.out.same (B := w.heap.size + 1) (Nat.lt_succ_of_lt hN)))); have BR5 := Lib.hid (HJ5.out.cells BRq.out hRN); obtain ⟨p0, p1, p2, p3, p4⟩ := row5 BK5.out; clear hq5 hp7 hk7 h5)
                refine hK.out _ _ ?_ (fun hHeld => ?_)
                · (try dsimp only); go_keep
                clear hK K; try simp only [Act.put, setA, setZ, setS]
                refine only_at 5 (by kernel_rfl) rfl (fun K hK => ?_); go_simp
                (go_at_call 114
                 (with_reducible refine (operate_any (B := w.heap.size + 1) (ob := some V1.heap.size) (by have := HG1.out; have := HKK5.out.1; omega) (fun g hg => by injection hg with hg; have := lt_of_heap BK5.out; omega) HTL.out (HE5.out) (HF5.out)).mono ?_); rintro e w7 ⟨L6, rfl, hx6, hb6⟩; obtain ⟨V6, rfl⟩ : ∃ W, W = w7 := ⟨_, rfl⟩; have HX6 := Lib.hid hx6; obtain ⟨o6, s6, n6, A6, m6, k6, B6, j6, l6, rfl⟩ := hx6.shape; have HP6 := Lib.hid (HP5.out.under hb6); have HK6 := Lib.hid (HK5.out.trans (KeptN.of_below hb6)); have BK6 := Lib.hid ((hb6.block _ (lt_of_heap BK5.out)).trans BK5.out); have BR6 := Lib.hid ((hb6.block _ (lt_of_heap BR5.out)).trans BR5.out); obtain ⟨r0, r1, r2, r3, r4⟩ := row5 BR6.out; have f0 := row_frozen BR6.out 0; have f1 := row_frozen BR6.out 1; have f2 := row_frozen BR6.out 2; have f3 := row_frozen BR6.out 3; have f4 := row_frozen BR6.out 4; obtain ⟨p0, p1, p2, p3, p4⟩ := row5 BK6.out; clear hx6 hb6)
                refine hK.out _ _ ?_ (fun hHeld => ?_)
                · (try dsimp only); go_keep
                clear hK K; try simp only [Act.put, setA, setZ, setS]
                refine only_at 6 (by kernel_rfl) rfl (fun K hK => ?_); go_simp
                refine hK.out _ _ ⟨(cell_set5 hKR _ _ _ _ _).trans hHeld.1, (cell_set5 hKR _ _ _ _ _).trans hHeld.2.1, (cell_set5 hKR _ _ _ _ _).trans hHeld.2.2.1, (cell_set5 hKR _ _ _ _ _).trans hHeld.2.2.2.1, (cell_set5 hKR _ _ _ _ _).trans hHeld.2.2.2.2⟩ (fun _ => ?_); clear hK K; try simp only [Act.put, setA, setZ, setS]
                refine wpAnyH_done (by kernel_rfl) ?_ _; go_wp2_with fail
                cases HQ5.out; exact bodyPost_ret (operation_results rfl (set_row5 _ _ _ _ _ BR6.out)) rfl ⟨_, rfl, ⟨_, rfl, (HX6.out.sub (off_sub _ _ _)).lift ((Same.refl _ V6).set5 (.inl (Nat.lt_succ_self _)) _ _ _ _ _) (Nat.le_succ _)⟩, (HP6.out.set5 (by omega) (by omega) _ _ _ _ _), HK6.out.set5 (Nat.le_refl _) _ _ _ _ _⟩
              · have c1 : ((s : Int) == 1) = false := by simp; omega
                have c2 : ((s : Int) == 2) = true := by have : s = 2 := by omega
                                                        rw [this]; rfl
                clear h12
                go_wp2_with (first
                  | (go_at_call 40; (with_reducible refine (next_any HPq.out).mono ?_); rintro e w7 ⟨rfl, hb7⟩; obtain ⟨V2, rfl⟩ : ∃ W, W = w7 := ⟨_, rfl⟩; have HP2 := Lib.hid (HPq.out.under hb7); have HJ2 := Lib.hid (KeptN.of_below (N := N) hb7); simp only [Tok.cells]; clear hb7)
                  | (go_at_call 112; (with_reducible refine (strength_any _ _).mono ?_); rintro e w7 ⟨rfl, hb7⟩; obtain ⟨V3, rfl⟩ : ∃ W, W = w7 := ⟨_, rfl⟩; have HP3 := Lib.hid (HP2.out.under hb7); have HJ3 := Lib.hid (HJ2.out.trans (KeptN.of_below hb7)); clear hb7)
                  | (go_at_call 113; (with_reducible refine (take_any HP3.out hr).mono ?_); rintro e w7 ⟨rfl, hp7, hk7⟩; obtain ⟨V4, rfl⟩ : ∃ W, W = w7 := ⟨_, rfl⟩; have HJ4 := Lib.hid (HJ3.out.trans hk7); have HP4 := Lib.hid hp7; have HK4 := Lib.hid (HKq.out.trans HJ4.out); have BK4 := Lib.hid (HJ4.out.cells BKq.out hKN); obtain ⟨p0, p1, p2, p3, p4⟩ := row5 BK4.out; simp only [Tok.cells]; clear hp7 hk7))
                refine wp_region_held_drew (S := (fun W => W.cell? ⟨V1.heap.size, 0, none⟩ = some (.int .i64 oL) ∧ W.cell? ⟨V1.heap.size, 1, none⟩ = some (.string sL) ∧ W.cell? ⟨V1.heap.size, 2, none⟩ = some (.int .i64 nL) ∧ W.cell? ⟨V1.heap.size, 3, none⟩ = some (.slice AL mL kL) ∧ W.cell? ⟨V1.heap.size, 4, none⟩ = some (.slice BL jL lL))) (by kernel_rfl) ?_ (fun hHeld => ?_)
                · (try dsimp only); go_keep
                refine take_now 0 rfl ?_; try simp only [Act.put, setA, setZ, setS]
                refine take_now 1 rfl ?_; try simp only [Act.put, setA, setZ, setS]
                refine take_now 2 rfl ?_; try simp only [Act.put, setA, setZ, setS]
                refine take_now 3 rfl ?_; try simp only [Act.put, setA, setZ, setS]
                refine only_at 4 (by kernel_rfl) rfl (fun K hK => ?_); go_simp
                (go_at_call 64
                 rcases bindP_some HQ4.out with ⟨f, hf, rfl⟩ | ⟨x5, ts5, h5, hq5⟩
                 · (with_reducible refine (op_this (HOO.out m hmf s HS.out.1 HS.out.2.1) N G o _ _ hf _ (HP4.out.under ((Below.refl _ _).drew))).mono ?_); rintro e w7 ⟨rfl, hk7⟩; exact ⟨rfl, rfl, (HK4.out.trans (KeptN.of_below ((Below.refl _ _).drew))).trans hk7⟩
                 (with_reducible refine (op_this (HOO.out m hmf s HS.out.1 HS.out.2.1) N G o _ _ h5 _ (HP4.out.under ((Below.refl _ _).drew))).mono ?_); rintro e w7 ⟨v5, rfl, hr7, hp7, hk7⟩; obtain ⟨V5, rfl⟩ : ∃ W, W = w7 := ⟨_, rfl⟩; have HQ5 := Lib.hid hq5; have HP5 := Lib.hid hp7; have HK5 := Lib.hid ((HK4.out.trans (KeptN.of_below ((Below.refl _ _).drew))).trans hk7); have HJ5 := Lib.hid ((HJ4.out.trans (KeptN.of_below ((Below.refl _ _).drew))).trans hk7); obtain ⟨L5, rfl, hx⟩ := hr7; have HF5 := Lib.hid (hx.sub (new_off (B := w.heap.size + 1) (ob := some V1.heap.size) (Same.refl _ V5) (by have := HG1.out; have := lt_of_heap BK4.out; show w.heap.size + 1 ≤ V4.heap.size; omega) (fun g hg => .inl (by injection hg with hg; have := lt_of_heap BK4.out; show g < V4.heap.size; omega)))); obtain ⟨o5, s5, n5, A5, m5, k5, B5, j5, l5, rfl⟩ := hx.shape; clear hx; have BK5 := Lib.hid (hk7.cells (show V4.drew.heap[_]? = _ from BK4.out) hKN); have HKK5 := Lib.hid (And.intro (show V1.heap.size ≤ V5.heap.size from Nat.le_of_lt (lt_of_heap BK5.out)) True.intro); have HE5 := Lib.hid (HEq.out.sub (off_same (HJ5.out.same (B := w.heap.size + 1) (Nat.lt_succ_of_lt hN)))); have BR5 := Lib.hid (HJ5.out.cells BRq.out hRN); obtain ⟨p0, p1, p2, p3, p4⟩ := row5 BK5.out; clear hq5 hp7 hk7 h5)
                refine hK.out _ _ ?_ (fun hHeld => ?_)
                · (try dsimp only); go_keep
                clear hK K; try simp only [Act.put, setA, setZ, setS]
                refine only_at 5 (by kernel_rfl) rfl (fun K hK => ?_); go_simp
                (go_at_call 114
                 (with_reducible refine (operate_any (B := w.heap.size + 1) (ob := some V1.heap.size) (by have := HG1.out; have := HKK5.out.1; omega) (fun g hg => by injection hg with hg; have := lt_of_heap BK5.out; omega) HTL.out (HE5.out) (HF5.out)).mono ?_); rintro e w7 ⟨L6, rfl, hx6, hb6⟩; obtain ⟨V6, rfl⟩ : ∃ W, W = w7 := ⟨_, rfl⟩; have HX6 := Lib.hid hx6; obtain ⟨o6, s6, n6, A6, m6, k6, B6, j6, l6, rfl⟩ := hx6.shape; have HP6 := Lib.hid (HP5.out.under hb6); have HK6 := Lib.hid (HK5.out.trans (KeptN.of_below hb6)); have BK6 := Lib.hid ((hb6.block _ (lt_of_heap BK5.out)).trans BK5.out); have BR6 := Lib.hid ((hb6.block _ (lt_of_heap BR5.out)).trans BR5.out); obtain ⟨r0, r1, r2, r3, r4⟩ := row5 BR6.out; have f0 := row_frozen BR6.out 0; have f1 := row_frozen BR6.out 1; have f2 := row_frozen BR6.out 2; have f3 := row_frozen BR6.out 3; have f4 := row_frozen BR6.out 4; obtain ⟨p0, p1, p2, p3, p4⟩ := row5 BK6.out; clear hx6 hb6)
                refine hK.out _ _ ?_ (fun hHeld => ?_)
                · (try dsimp only); go_keep
                clear hK K; try simp only [Act.put, setA, setZ, setS]
                refine only_at 6 (by kernel_rfl) rfl (fun K hK => ?_); go_simp
                refine hK.out _ _ ⟨(cell_set5 hKR _ _ _ _ _).trans hHeld.1, (cell_set5 hKR _ _ _ _ _).trans hHeld.2.1, (cell_set5 hKR _ _ _ _ _).trans hHeld.2.2.1, (cell_set5 hKR _ _ _ _ _).trans hHeld.2.2.2.1, (cell_set5 hKR _ _ _ _ _).trans hHeld.2.2.2.2⟩ (fun _ => ?_); clear hK K; try simp only [Act.put, setA, setZ, setS]
                refine wpAnyH_done (by kernel_rfl) ?_ _; go_wp2_with fail
                cases HQ5.out; exact bodyPost_ret (operation_results rfl (set_row5 _ _ _ _ _ BR6.out)) rfl ⟨_, rfl, ⟨_, rfl, (HX6.out.sub (off_sub _ _ _)).lift ((Same.refl _ V6).set5 (.inl (Nat.lt_succ_self _)) _ _ _ _ _) (Nat.le_succ _)⟩, (HP6.out.set5 (by omega) (by omega) _ _ _ _ _), HK6.out.set5 (Nat.le_refl _) _ _ _ _ _⟩
            · rw [if_neg h12] at hlx; have c1 : ((s : Int) == 1) = false := (by simp; omega); have c2 : ((s : Int) == 2) = false := (by simp; omega); clear h12; by_cases h5 : s = 5
              · rw [if_pos h5] at hlx; have HQ4 := Lib.hid hlx; have c5 : ((s : Int) == 5) = true := (by rw [h5]; rfl); clear hlx h5
                go_wp2_with (first
                  | (go_at_call 40; (with_reducible refine (next_any HPq.out).mono ?_); rintro e w7 ⟨rfl, hb7⟩; obtain ⟨V2, rfl⟩ : ∃ W, W = w7 := ⟨_, rfl⟩; have HP2 := Lib.hid (HPq.out.under hb7); have HJ2 := Lib.hid (KeptN.of_below (N := N) hb7); simp only [Tok.cells]; clear hb7)
                  | (go_at_call 112; (with_reducible refine (strength_any _ _).mono ?_); rintro e w7 ⟨rfl, hb7⟩; obtain ⟨V3, rfl⟩ : ∃ W, W = w7 := ⟨_, rfl⟩; have HP3 := Lib.hid (HP2.out.under hb7); have HJ3 := Lib.hid (HJ2.out.trans (KeptN.of_below hb7)); clear hb7)
                  | (go_at_call 113; (with_reducible refine (take_any HP3.out hr).mono ?_); rintro e w7 ⟨rfl, hp7, hk7⟩; obtain ⟨V4, rfl⟩ : ∃ W, W = w7 := ⟨_, rfl⟩; have HJ4 := Lib.hid (HJ3.out.trans hk7); have HP4 := Lib.hid hp7; have HK4 := Lib.hid (HKq.out.trans HJ4.out); have BK4 := Lib.hid (HJ4.out.cells BKq.out hKN); obtain ⟨p0, p1, p2, p3, p4⟩ := row5 BK4.out; simp only [Tok.cells]; clear hp7 hk7))
                refine wp_region_held_drew (S := (fun W => W.cell? ⟨V1.heap.size, 0, none⟩ = some (.int .i64 oL) ∧ W.cell? ⟨V1.heap.size, 1, none⟩ = some (.string sL) ∧ W.cell? ⟨V1.heap.size, 2, none⟩ = some (.int .i64 nL) ∧ W.cell? ⟨V1.heap.size, 3, none⟩ = some (.slice AL mL kL) ∧ W.cell? ⟨V1.heap.size, 4, none⟩ = some (.slice BL jL lL))) (by kernel_rfl) ?_ (fun hHeld => ?_)
                · (try dsimp only); go_keep
                refine take_now 0 rfl ?_; try simp only [Act.put, setA, setZ, setS]
                refine take_now 1 rfl ?_; try simp only [Act.put, setA, setZ, setS]
                refine take_now 2 rfl ?_; try simp only [Act.put, setA, setZ, setS]
                refine take_now 3 rfl ?_; try simp only [Act.put, setA, setZ, setS]
                refine take_now 4 rfl ?_; try simp only [Act.put, setA, setZ, setS]
                refine only_at 5 (by kernel_rfl) rfl (fun K hK => ?_); go_simp
                (go_at_call 64
                 rcases bindP_some HQ4.out with ⟨f, hf, rfl⟩ | ⟨x5, ts5, h5, hq5⟩
                 · (with_reducible refine (op_next (HOO.out m hmf (s + 1) (by have := HS.out; omega) (by have := HS.out; omega)) N G o _ _ hf _ (HP4.out.under ((Below.refl _ _).drew))).mono ?_); rintro e w7 ⟨rfl, hk7⟩; exact ⟨rfl, rfl, (HK4.out.trans (KeptN.of_below ((Below.refl _ _).drew))).trans hk7⟩
                 (with_reducible refine (op_next (HOO.out m hmf (s + 1) (by have := HS.out; omega) (by have := HS.out; omega)) N G o _ _ h5 _ (HP4.out.under ((Below.refl _ _).drew))).mono ?_); rintro e w7 ⟨v5, rfl, hr7, hp7, hk7⟩; obtain ⟨V5, rfl⟩ : ∃ W, W = w7 := ⟨_, rfl⟩; have HQ5 := Lib.hid hq5; have HP5 := Lib.hid hp7; have HK5 := Lib.hid ((HK4.out.trans (KeptN.of_below ((Below.refl _ _).drew))).trans hk7); have HJ5 := Lib.hid ((HJ4.out.trans (KeptN.of_below ((Below.refl _ _).drew))).trans hk7); obtain ⟨L5, rfl, hx⟩ := hr7; have HF5 := Lib.hid (hx.sub (new_off (B := w.heap.size + 1) (ob := some V1.heap.size) (Same.refl _ V5) (by have := HG1.out; have := lt_of_heap BK4.out; show w.heap.size + 1 ≤ V4.heap.size; omega) (fun g hg => .inl (by injection hg with hg; have := lt_of_heap BK4.out; show g < V4.heap.size; omega)))); obtain ⟨o5, s5, n5, A5, m5, k5, B5, j5, l5, rfl⟩ := hx.shape; clear hx; have BK5 := Lib.hid (hk7.cells (show V4.drew.heap[_]? = _ from BK4.out) hKN); have HKK5 := Lib.hid (And.intro (show V1.heap.size ≤ V5.heap.size from Nat.le_of_lt (lt_of_heap BK5.out)) True.intro); have HE5 := Lib.hid (HEq.out.sub (off_same (HJ5.out.same (B := w.heap.size + 1) (Nat.lt_succ_of_lt hN)))); have BR5 := Lib.hid (HJ5.out.cells BRq.out hRN); obtain ⟨p0, p1, p2, p3, p4⟩ := row5 BK5.out; clear hq5 hp7 hk7 h5)
                refine hK.out _ _ ?_ (fun hHeld => ?_)
                · (try dsimp only); go_keep
                clear hK K; try simp only [Act.put, setA, setZ, setS]
                refine only_at 6 (by kernel_rfl) rfl (fun K hK => ?_); go_simp
                (go_at_call 114
                 (with_reducible refine (operate_any (B := w.heap.size + 1) (ob := some V1.heap.size) (by have := HG1.out; have := HKK5.out.1; omega) (fun g hg => by injection hg with hg; have := lt_of_heap BK5.out; omega) HTL.out (HE5.out) (HF5.out)).mono ?_); rintro e w7 ⟨L6, rfl, hx6, hb6⟩; obtain ⟨V6, rfl⟩ : ∃ W, W = w7 := ⟨_, rfl⟩; have HX6 := Lib.hid hx6; obtain ⟨o6, s6, n6, A6, m6, k6, B6, j6, l6, rfl⟩ := hx6.shape; have HP6 := Lib.hid (HP5.out.under hb6); have HK6 := Lib.hid (HK5.out.trans (KeptN.of_below hb6)); have BK6 := Lib.hid ((hb6.block _ (lt_of_heap BK5.out)).trans BK5.out); have BR6 := Lib.hid ((hb6.block _ (lt_of_heap BR5.out)).trans BR5.out); obtain ⟨r0, r1, r2, r3, r4⟩ := row5 BR6.out; have f0 := row_frozen BR6.out 0; have f1 := row_frozen BR6.out 1; have f2 := row_frozen BR6.out 2; have f3 := row_frozen BR6.out 3; have f4 := row_frozen BR6.out 4; obtain ⟨p0, p1, p2, p3, p4⟩ := row5 BK6.out; clear hx6 hb6)
                refine hK.out _ _ ?_ (fun hHeld => ?_)
                · (try dsimp only); go_keep
                clear hK K; try simp only [Act.put, setA, setZ, setS]
                refine only_at 7 (by kernel_rfl) rfl (fun K hK => ?_); go_simp
                refine hK.out _ _ ⟨(cell_set5 hKR _ _ _ _ _).trans hHeld.1, (cell_set5 hKR _ _ _ _ _).trans hHeld.2.1, (cell_set5 hKR _ _ _ _ _).trans hHeld.2.2.1, (cell_set5 hKR _ _ _ _ _).trans hHeld.2.2.2.1, (cell_set5 hKR _ _ _ _ _).trans hHeld.2.2.2.2⟩ (fun _ => ?_); clear hK K; try simp only [Act.put, setA, setZ, setS]
                refine wpAnyH_done (by kernel_rfl) ?_ _; go_wp2_with fail
                cases HQ5.out; exact bodyPost_ret (operation_results rfl (set_row5 _ _ _ _ _ BR6.out)) rfl ⟨_, rfl, ⟨_, rfl, (HX6.out.sub (off_sub _ _ _)).lift ((Same.refl _ V6).set5 (.inl (Nat.lt_succ_self _)) _ _ _ _ _) (Nat.le_succ _)⟩, (HP6.out.set5 (by omega) (by omega) _ _ _ _ _), HK6.out.set5 (Nat.le_refl _) _ _ _ _ _⟩
              · rw [if_neg h5] at hlx; have HQ4 := Lib.hid hlx; have c5 : ((s : Int) == 5) = false := (by simp; omega); clear hlx h5; have hRW : ∀ (V : World) (x y z u v : Value), (((((V.setCell ⟨V1.heap.size, 0, none⟩ x).setCell ⟨V1.heap.size, 1, none⟩ y).setCell ⟨V1.heap.size, 2, none⟩ z).setCell ⟨V1.heap.size, 3, none⟩ u).setCell ⟨V1.heap.size, 4, none⟩ v).heap[w.heap.size]? = V.heap[w.heap.size]? := fun V x y z u v => by
                  have h1 : ∀ (b : Addr) (W : World) (x : Value), b.block = V1.heap.size → (W.setCell b x).heap[w.heap.size]? = W.heap[w.heap.size]? := fun b W x hb => Below.heap_setCell _ _ _ _ (by rw [hb]; exact fun e => hKR e.symm); rw [h1 _ _ _ rfl, h1 _ _ _ rfl, h1 _ _ _ rfl, h1 _ _ _ rfl, h1 _ _ _ rfl]
                go_wp2_with (first
                  | (go_at_call 40; (with_reducible refine (next_any HPq.out).mono ?_); rintro e w7 ⟨rfl, hb7⟩; obtain ⟨V2, rfl⟩ : ∃ W, W = w7 := ⟨_, rfl⟩; have HP2 := Lib.hid (HPq.out.under hb7); have HJ2 := Lib.hid (KeptN.of_below (N := N) hb7); simp only [Tok.cells]; clear hb7)
                  | (go_at_call 112; (with_reducible refine (strength_any _ _).mono ?_); rintro e w7 ⟨rfl, hb7⟩; obtain ⟨V3, rfl⟩ : ∃ W, W = w7 := ⟨_, rfl⟩; have HP3 := Lib.hid (HP2.out.under hb7); have HJ3 := Lib.hid (HJ2.out.trans (KeptN.of_below hb7)); clear hb7)
                  | (go_at_call 113; (with_reducible refine (take_any HP3.out hr).mono ?_); rintro e w7 ⟨rfl, hp7, hk7⟩; obtain ⟨V4, rfl⟩ : ∃ W, W = w7 := ⟨_, rfl⟩; have HJ4 := Lib.hid (HJ3.out.trans hk7); have HP4 := Lib.hid hp7; have HK4 := Lib.hid (HKq.out.trans HJ4.out); have BK4 := Lib.hid (HJ4.out.cells BKq.out hKN); obtain ⟨p0, p1, p2, p3, p4⟩ := row5 BK4.out; simp only [Tok.cells]; clear hp7 hk7))
                refine wp_region_held_drew (S := fun _ => True) (by kernel_rfl) True.intro (fun hHeld => ?_); refine take_now 0 rfl ?_; try simp only [Act.put, setA, setZ, setS]
                refine take_now 2 rfl ?_; try simp only [Act.put, setA, setZ, setS]
                refine take_now 3 rfl ?_; try simp only [Act.put, setA, setZ, setS]
                refine take_now 4 rfl ?_; try simp only [Act.put, setA, setZ, setS]
                refine wpAnyH_ready (rs := [1, 5]) (by kernel_rfl) (by simp) (cons_at 1 rfl (fun K hK => ?_) (cons_at 5 rfl (fun K hK => ?_) AllReadyH.nil))
                · go_simp
                  refine hK.out _ _ True.intro (fun hHeld => ?_); clear hK K; try simp only [Act.put, setA, setZ, setS]
                  refine only_at 5 (by kernel_rfl) rfl (fun K hK => ?_); go_simp
                  (go_at_call 64
                   rcases bindP_some HQ4.out with ⟨f, hf, rfl⟩ | ⟨x5, ts5, h5, hq5⟩
                   · (with_reducible refine (op_next (HOO.out m hmf (s + 1) (by have := HS.out; omega) (by have := HS.out; omega)) N G o _ _ hf _ (HP4.out.under ((Below.refl _ _).drew))).mono ?_); rintro e w7 ⟨rfl, hk7⟩; exact ⟨rfl, rfl, (HK4.out.trans (KeptN.of_below ((Below.refl _ _).drew))).trans hk7⟩
                   (with_reducible refine (op_next (HOO.out m hmf (s + 1) (by have := HS.out; omega) (by have := HS.out; omega)) N G o _ _ h5 _ (HP4.out.under ((Below.refl _ _).drew))).mono ?_); rintro e w7 ⟨v5, rfl, hr7, hp7, hk7⟩; obtain ⟨V5, rfl⟩ : ∃ W, W = w7 := ⟨_, rfl⟩; have HQ5 := Lib.hid hq5; have HP5 := Lib.hid hp7; have HK5 := Lib.hid ((HK4.out.trans (KeptN.of_below ((Below.refl _ _).drew))).trans hk7); have HJ5 := Lib.hid ((HJ4.out.trans (KeptN.of_below ((Below.refl _ _).drew))).trans hk7); obtain ⟨L5, rfl, hx⟩ := hr7; have HF5 := Lib.hid (hx.sub (new_off (B := w.heap.size + 1) (ob := some V1.heap.size) (Same.refl _ V5) (by have := HG1.out; have := lt_of_heap BK4.out; show w.heap.size + 1 ≤ V4.heap.size; omega) (fun g hg => .inl (by injection hg with hg; have := lt_of_heap BK4.out; show g < V4.heap.size; omega)))); obtain ⟨o5, s5, n5, A5, m5, k5, B5, j5, l5, rfl⟩ := hx.shape; clear hx; have BK5 := Lib.hid (hk7.cells (show V4.drew.heap[_]? = _ from BK4.out) hKN); have HKK5 := Lib.hid (And.intro (show V1.heap.size ≤ V5.heap.size from Nat.le_of_lt (lt_of_heap BK5.out)) True.intro); have HE5 := Lib.hid (HEq.out.sub (off_same (HJ5.out.same (B := w.heap.size + 1) (Nat.lt_succ_of_lt hN)))); have BR5 := Lib.hid (HJ5.out.cells BRq.out hRN); obtain ⟨p0, p1, p2, p3, p4⟩ := row5 BK5.out; clear hq5 hp7 hk7 h5)
                  refine hK.out _ _ True.intro (fun hHeld => ?_); clear hK K; try simp only [Act.put, setA, setZ, setS]
                  refine only_at 6 (by kernel_rfl) rfl (fun K hK => ?_); go_simp
                  (go_at_call 114
                   (with_reducible refine (operate_any (B := w.heap.size + 1) (ob := some V1.heap.size) (by have := HG1.out; have := HKK5.out.1; omega) (fun g hg => by injection hg with hg; have := lt_of_heap BK5.out; omega) HTL.out (HE5.out) (HF5.out)).mono ?_); rintro e w7 ⟨L6, rfl, hx6, hb6⟩; obtain ⟨V6, rfl⟩ : ∃ W, W = w7 := ⟨_, rfl⟩; have HX6 := Lib.hid hx6; obtain ⟨o6, s6, n6, A6, m6, k6, B6, j6, l6, rfl⟩ := hx6.shape; have HP6 := Lib.hid (HP5.out.under hb6); have HK6 := Lib.hid (HK5.out.trans (KeptN.of_below hb6)); have BK6 := Lib.hid ((hb6.block _ (lt_of_heap BK5.out)).trans BK5.out); have BR6 := Lib.hid ((hb6.block _ (lt_of_heap BR5.out)).trans BR5.out); obtain ⟨r0, r1, r2, r3, r4⟩ := row5 BK6.out; have f0 := row_frozen BK6.out 0; have f1 := row_frozen BK6.out 1; have f2 := row_frozen BK6.out 2; have f3 := row_frozen BK6.out 3; have f4 := row_frozen BK6.out 4; obtain ⟨p0, p1, p2, p3, p4⟩ := row5 BK6.out; clear hx6 hb6)
                  refine hK.out _ _ True.intro (fun hHeld => ?_); clear hK K; try simp only [Act.put, setA, setZ, setS]
                  refine only_at 7 (by kernel_rfl) rfl (fun K hK => ?_); go_simp
                  refine hK.out _ _ True.intro (fun hHeld => ?_); clear hK K; try simp only [Act.put, setA, setZ, setS]
                  refine wpAnyH_done (by kernel_rfl) ?_ _; go_wp2_with fail
                  go_roundg m
                  case measure => omega
                  case rel => exact ⟨m, _, ts5, _, rfl, hmf, HQ5.out, set_row5 _ _ _ _ _ BK6.out, HX6.out.sub (off_set5 _ _ _ _ _), (hRW V6 _ _ _ _ _).trans BR6.out, HP6.out.set5 hKN (by have := HG1.out; omega) _ _ _ _ _, HK6.out.set5 (Nat.le_of_lt HG1.out) _ _ _ _ _⟩
                · go_simp
                  (go_at_call 64
                   rcases bindP_some HQ4.out with ⟨f, hf, rfl⟩ | ⟨x5, ts5, h5, hq5⟩
                   · (with_reducible refine (op_next (HOO.out m hmf (s + 1) (by have := HS.out; omega) (by have := HS.out; omega)) N G o _ _ hf _ (HP4.out.under ((Below.refl _ _).drew))).mono ?_); rintro e w7 ⟨rfl, hk7⟩; exact ⟨rfl, rfl, (HK4.out.trans (KeptN.of_below ((Below.refl _ _).drew))).trans hk7⟩
                   (with_reducible refine (op_next (HOO.out m hmf (s + 1) (by have := HS.out; omega) (by have := HS.out; omega)) N G o _ _ h5 _ (HP4.out.under ((Below.refl _ _).drew))).mono ?_); rintro e w7 ⟨v5, rfl, hr7, hp7, hk7⟩; obtain ⟨V5, rfl⟩ : ∃ W, W = w7 := ⟨_, rfl⟩; have HQ5 := Lib.hid hq5; have HP5 := Lib.hid hp7; have HK5 := Lib.hid ((HK4.out.trans (KeptN.of_below ((Below.refl _ _).drew))).trans hk7); have HJ5 := Lib.hid ((HJ4.out.trans (KeptN.of_below ((Below.refl _ _).drew))).trans hk7); obtain ⟨L5, rfl, hx⟩ := hr7; have HF5 := Lib.hid (hx.sub (new_off (B := w.heap.size + 1) (ob := some V1.heap.size) (Same.refl _ V5) (by have := HG1.out; have := lt_of_heap BK4.out; show w.heap.size + 1 ≤ V4.heap.size; omega) (fun g hg => .inl (by injection hg with hg; have := lt_of_heap BK4.out; show g < V4.heap.size; omega)))); obtain ⟨o5, s5, n5, A5, m5, k5, B5, j5, l5, rfl⟩ := hx.shape; clear hx; have BK5 := Lib.hid (hk7.cells (show V4.drew.heap[_]? = _ from BK4.out) hKN); have HKK5 := Lib.hid (And.intro (show V1.heap.size ≤ V5.heap.size from Nat.le_of_lt (lt_of_heap BK5.out)) True.intro); have HE5 := Lib.hid (HEq.out.sub (off_same (HJ5.out.same (B := w.heap.size + 1) (Nat.lt_succ_of_lt hN)))); have BR5 := Lib.hid (HJ5.out.cells BRq.out hRN); obtain ⟨p0, p1, p2, p3, p4⟩ := row5 BK5.out; clear hq5 hp7 hk7 h5)
                  refine hK.out _ _ True.intro (fun hHeld => ?_); clear hK K; try simp only [Act.put, setA, setZ, setS]
                  refine only_at 1 (by kernel_rfl) rfl (fun K hK => ?_); go_simp
                  refine hK.out _ _ True.intro (fun hHeld => ?_); clear hK K; try simp only [Act.put, setA, setZ, setS]
                  refine only_at 6 (by kernel_rfl) rfl (fun K hK => ?_); go_simp
                  (go_at_call 114
                   (with_reducible refine (operate_any (B := w.heap.size + 1) (ob := some V1.heap.size) (by have := HG1.out; have := HKK5.out.1; omega) (fun g hg => by injection hg with hg; have := lt_of_heap BK5.out; omega) HTL.out (HE5.out) (HF5.out)).mono ?_); rintro e w7 ⟨L6, rfl, hx6, hb6⟩; obtain ⟨V6, rfl⟩ : ∃ W, W = w7 := ⟨_, rfl⟩; have HX6 := Lib.hid hx6; obtain ⟨o6, s6, n6, A6, m6, k6, B6, j6, l6, rfl⟩ := hx6.shape; have HP6 := Lib.hid (HP5.out.under hb6); have HK6 := Lib.hid (HK5.out.trans (KeptN.of_below hb6)); have BK6 := Lib.hid ((hb6.block _ (lt_of_heap BK5.out)).trans BK5.out); have BR6 := Lib.hid ((hb6.block _ (lt_of_heap BR5.out)).trans BR5.out); obtain ⟨r0, r1, r2, r3, r4⟩ := row5 BK6.out; have f0 := row_frozen BK6.out 0; have f1 := row_frozen BK6.out 1; have f2 := row_frozen BK6.out 2; have f3 := row_frozen BK6.out 3; have f4 := row_frozen BK6.out 4; obtain ⟨p0, p1, p2, p3, p4⟩ := row5 BK6.out; clear hx6 hb6)
                  refine hK.out _ _ True.intro (fun hHeld => ?_); clear hK K; try simp only [Act.put, setA, setZ, setS]
                  refine only_at 7 (by kernel_rfl) rfl (fun K hK => ?_); go_simp
                  refine hK.out _ _ True.intro (fun hHeld => ?_); clear hK K; try simp only [Act.put, setA, setZ, setS]
                  refine wpAnyH_done (by kernel_rfl) ?_ _; go_wp2_with fail
                  go_roundg m
                  case measure => omega
                  case rel => exact ⟨m, _, ts5, _, rfl, hmf, HQ5.out, set_row5 _ _ _ _ _ BK6.out, HX6.out.sub (off_set5 _ _ _ _ _), (hRW V6 _ _ _ _ _).trans BR6.out, HP6.out.set5 hKN (by have := HG1.out; omega) _ _ _ _ _, HK6.out.set5 (Nat.le_of_lt HG1.out) _ _ _ _ _⟩
          · rw [if_neg ht] at hlx; have hcmp : (((strongT t.text : Nat) : Int) == (s : Int)) = false := (by simp; omega); cases hlx; clear ht
            go_wp2_with (first
              | (go_at_call 40; (with_reducible refine (next_any HPq.out).mono ?_); rintro e w7 ⟨rfl, hb7⟩; obtain ⟨V2, rfl⟩ : ∃ W, W = w7 := ⟨_, rfl⟩; have HP2 := Lib.hid (HPq.out.under hb7); have HJ2 := Lib.hid (KeptN.of_below (N := N) hb7); simp only [Tok.cells]; clear hb7)
              | (go_at_call 112; (with_reducible refine (strength_any _ _).mono ?_); rintro e w7 ⟨rfl, hb7⟩; obtain ⟨V3, rfl⟩ : ∃ W, W = w7 := ⟨_, rfl⟩; have HP3 := Lib.hid (HP2.out.under hb7); have HJ3 := Lib.hid (HJ2.out.trans (KeptN.of_below hb7)); have HK3 := Lib.hid (HKq.out.trans HJ3.out); have BK3 := Lib.hid (HJ3.out.cells BKq.out hKN); have BR3 := Lib.hid (HJ3.out.cells BRq.out hRN); obtain ⟨p0, p1, p2, p3, p4⟩ := row5 BK3.out; obtain ⟨r0, r1, r2, r3, r4⟩ := row5 BR3.out; have f0 := row_frozen BR3.out 0; have f1 := row_frozen BR3.out 1; have f2 := row_frozen BR3.out 2; have f3 := row_frozen BR3.out 3; have f4 := row_frozen BR3.out 4; clear hb7))
            exact bodyPost_ret (operation_results rfl (set_row5 _ _ _ _ _ BR3.out)) rfl ⟨_, rfl, ⟨_, rfl, ((HEq.out.sub (off_same (HJ3.out.same (B := w.heap.size + 1) (Nat.lt_succ_of_lt hN)))).sub (off_sub _ _ _)).lift ((Same.refl _ V3).set5 (.inl (Nat.lt_succ_self _)) _ _ _ _ _) (Nat.le_succ _)⟩, (HP3.out.set5 (by omega) (by omega) _ _ _ _ _), HK3.out.set5 (Nat.le_refl _) _ _ _ _ _⟩
end Go.Proofs.YtlhmdjhfmhkllaaGreatDoor
