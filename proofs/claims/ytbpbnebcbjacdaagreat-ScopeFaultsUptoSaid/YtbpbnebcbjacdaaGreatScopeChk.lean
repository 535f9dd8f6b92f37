/-
  Check: a program's first fault.
-/
import Derived.Test.YtbpbnebcbjacdaaGreatScopeAdd
import Derived.Test.YtbpbnebcbjacdaaGreatTreeRight
namespace Go.Proofs.YtbpbnebcbjacdaaGreat
open Go.RowKit
open Go.ChangeMaps Go.MapKept
open Go.Maps

/-- a fault -/
def FaultPost (f : Int × Int × Int) (w : World) (e : Ending) (w' : World) : Prop := e = .returned (.agg #[.int .i64 f.1, .int .i64 f.2.1, .int .i64 f.2.2]) ∧ Below w.heap.size w w'
theorem fault_size : (Tryz.prog.info? 29).map (·.size) = some 3 := by kernel_rfl
set_option maxRecDepth 100000 in
theorem fault_results {tmps : Array Value} {w : World} {N : Nat} {x0 x1 x2 : Value} (hp : tmps.getD 4 undef = .pointer (some ⟨N, 0, none⟩)) (hg : w.heap[N]? = some (.cells #[x0, x1, x2] 29 (0, 0))) :
    (results Tryz.f26 tmps).run Tryz.prog w = .ok (.agg #[x0, x1, x2]) w :=
  results_cell_row Tryz.results26 tmps w N 29 _ (0, 0) _ hp hg Tryz.underlying29 rfl fault_size
set_option maxRecDepth 100000 in
theorem check_results {tmps : Array Value} {w : World} {N : Nat} {x0 x1 x2 : Value} (hp : tmps.getD 4 undef = .pointer (some ⟨N, 0, none⟩)) (hg : w.heap[N]? = some (.cells #[x0, x1, x2] 29 (0, 0))) :
    (results Tryz.f10 tmps).run Tryz.prog w = .ok (.agg #[x0, x1, x2]) w :=
  results_cell_row Tryz.results10 tmps w N 29 _ (0, 0) _ hp hg Tryz.underlying29 rfl fault_size
theorem set_row3 {w : World} {N : Nat} {T0 : TypeId} {a b c : Value} (x y z : Value) (h : w.heap[N]? = some (.cells #[a, b, c] T0 (0, 0))) : (((w.setCell ⟨N, 0, none⟩ x).setCell ⟨N, 1, none⟩ y).setCell ⟨N, 2, none⟩ z).heap[N]? = some (.cells #[x, y, z] T0 (0, 0)) := by
  have h1 := heap_setCell_same w N 0 _ _ x h
  have h2 := heap_setCell_same _ N 1 _ _ y h1
  have h3 := heap_setCell_same _ N 2 _ _ z h2
  simpa using h3
theorem row_frozen {w : World} {N : Nat} {cs : Array Value} {T0 : TypeId} (h : w.heap[N]? = some (.cells cs T0 (0, 0))) (j : Nat) : w.frozen? ⟨N, j, none⟩ = false := by simp [World.frozen?, h]
theorem below_set3 {B : Nat} {a w : World} {N : Nat} (h : Below B a w) (hN : B ≤ N) (x y z : Value) : Below B a (((w.setCell ⟨N, 0, none⟩ x).setCell ⟨N, 1, none⟩ y).setCell ⟨N, 2, none⟩ z) := ((h.setCell hN x).setCell hN y).setCell hN z
set_option maxHeartbeats 400000 in
theorem fault_any (a b : Int) (w : World) : Calls Tryz.prog 26 #[.int .i64 a, .int .i64 b] w (FaultPost (4, a, b) w) := by
  go_enter Tryz.func26, Tryz.ntmps26
  go_wp2_with fail
  exact bodyPost_ret (fault_results rfl (heap_alloc_new w _)) rfl ⟨rfl, (Below.refl _ w).alloc (Nat.le_refl _) _⟩
theorem flat_len {X : Type} {f : X → List Tx} {c : Nat} (l : List X) (h : ∀ x ∈ l, (f x).length ≤ c) : (l.flatMap f).length ≤ l.length * c := by
  induction l with
  | nil => simp
  | cons x r ih =>
    have h1 := h x (by simp)
    have h2 := ih (fun y hy => h y (by simp [hy]))
    rw [List.flatMap_cons, List.length_append, List.length_cons, Nat.add_mul, Nat.one_mul]
    omega
theorem allM_len {X : Type} {l : List X} {a b : Nat} {f : X → Bool} (h : allM l a b f = true) : a ≤ l.length ∧ l.length ≤ b ∧ ∀ x ∈ l, f x = true := by
  unfold allM at h
  rw [Bool.and_eq_true, Bool.and_eq_true, decide_eq_true_eq, decide_eq_true_eq, List.all_eq_true] at h
  exact ⟨h.1.1, h.1.2, h.2⟩
theorem item_fit {made : Bool} {i : QItem} (h : rightItem made i = true) : (definedQ i).length ≤ 144 ∧ i.states.length ≤ 8 := by
  obtain ⟨⟨nm, e⟩, sts⟩ := i
  unfold rightItem at h
  by_cases h0 : sts = []
  · subst h0
    rw [if_pos rfl] at h
    unfold rightEq at h
    rw [Bool.and_eq_true] at h
    have := allM_len h.1
    have h2 : nm.length ≤ 6 := this.2.1
    exact ⟨by show nm.length ≤ 144; omega, by simp⟩
  · rw [if_neg h0, Bool.and_eq_true, Bool.and_eq_true] at h
    obtain ⟨_, _, h3⟩ := h
    obtain ⟨_, h4, h5⟩ := allM_len h3
    refine ⟨?_, h4⟩
    cases sts with
    | nil => exact absurd rfl h0
    | cons z r =>
      have h6 := h5 z (by simp)
      unfold rightState at h6
      rw [Bool.and_eq_true, Bool.and_eq_true] at h6
      obtain ⟨_, h7, h8⟩ := allM_len h6.2.1
      show (z.eqs.flatMap QEq.names).length ≤ 144
      have := flat_len (f := QEq.names) (c := 6) z.eqs (fun q hq => by
        have := h8 q hq
        unfold rightEq at this
        rw [Bool.and_eq_true] at this
        exact (allM_len this.1).2.1)
      omega
theorem node_fit {made : Bool} {n : QNode} (h : rightNode made n = true) : NodeFit made n := by
  unfold rightNode at h
  simp only [Bool.and_eq_true] at h
  obtain ⟨_, h1, h2, h3, h4⟩ := h
  have a1 := (allM_len h1).2.1
  have a2 := (allM_len h2).2.1
  have a3 := (allM_len h3).2.1
  refine ⟨by rw [List.length_append]; omega, by omega, fun i hi => ?_⟩
  have h5 := (allM_len h4).2.2 i hi
  have h6 := item_fit h5
  exact ⟨h5, by omega, by omega⟩
theorem rightL_zero {made : Bool} {p : QProg} (h : rightL made p = 0) : rightP made p = true ∧ p.nodes.any largeN = false := by
  unfold rightL at h
  split at h
  · rename_i h1
    split at h
    · omega
    · rename_i h2
      exact ⟨h1, by simpa using h2⟩
  · omega
theorem right_nodes {made : Bool} {p : QProg} (h : rightL made p = 0) : ∀ n ∈ p.nodes, rightNode made n = true := by
  have h1 := (rightL_zero h).1
  unfold rightP at h1
  rw [Bool.and_eq_true] at h1
  exact (allM_len h1.2).2.2
theorem enumsF_cons (k : Int) (s : SProg) (e : QEnum) (r : List QEnum) : enumsF k s (e :: r) = if enumOk s e = true then enumsF (k + 1) (s.addEnum e) r else .inr k := rfl
theorem nodesF_no {k : Int} {s : SProg} {n : QNode} {r : List QNode} {b : Int} (h : nodeStep s n = .inr b) : nodesF k s (n :: r) = (4, k, b) := by rw [nodesF, h]
theorem nodesF_yes {k : Int} {s s' : SProg} {n : QNode} {r : List QNode} (h : nodeStep s n = .inl s') : nodesF k s (n :: r) = nodesF (k + 1) s' r := by rw [nodesF, h]
theorem check_bad {made : Bool} {p : QProg} (h : rightL made p ≠ 0) : checkQ made p = (rightL made p, 0, 0) := by rw [checkQ, if_neg h]
theorem check_enum {made : Bool} {p : QProg} (h : rightL made p = 0) {i : Int} (he : enumsF 0 .new p.enums = .inr i) : checkQ made p = (4, -1, i) := by rw [checkQ, if_pos h, he]
theorem check_nodes {made : Bool} {p : QProg} (h : rightL made p = 0) {s : SProg} (he : enumsF 0 .new p.enums = .inl s) : checkQ made p = nodesF 0 s p.nodes := by rw [checkQ, if_pos h, he]
set_option maxHeartbeats 16000000 in
set_option maxRecDepth 100000 in
theorem check_any {w0 : World} {L : List Value} {p : QProg} (made : Bool) (hL : ProgAt w0 L p) (hq : ∀ x ∈ p.nodes, (nodeX x).length ≤ 1048576) :
    ∀ w, Below w0.heap.size w0 w → Calls Tryz.prog 10 #[.agg L.toArray, .bool made] w (FaultPost (checkQ made p) w) := by
  intro w hb
  have HRI := Lib.hid (right_any made hL hq)
  have HB := Lib.hid hb
  have hsz := hb.size
  obtain ⟨ev, nv, rfl, he, hn⟩ := hL
  obtain ⟨E, ek, rfl, hec, hem, hee⟩ := he
  obtain ⟨C, ck, rfl, hcc, hmc, hce⟩ := hn
  have hel : p.enums.length ≤ 9223372036854775807 := by have h : p.enums.length ≤ ek := hec; unfold maxLen at hem; omega
  have hnl : p.nodes.length ≤ 9223372036854775807 := by have h : p.nodes.length ≤ ck := hcc; unfold maxLen at hmc; omega
  have HEE := Lib.hid hee
  have HCE := Lib.hid hce
  clear hb hec hem hee hcc hmc hce hq
  by_cases h0 : rightL made p = 0
  · have H0 := Lib.hid h0
    rw [h0] at HRI
    clear h0
    go_enter Tryz.func10, Tryz.ntmps10
    go_wp2_with fail
    have a1 := Lib.hid ((Below.refl w.heap.size w).alloc (Nat.le_refl _) (.cells #[.slice E p.enums.length ek, .slice C p.nodes.length ck] 25))
    have HV := Lib.hid (a1.out.alloc a1.out.size (.cells #[.int .i64 0, .int .i64 0, .int .i64 0] 29))
    have BF := Lib.hid (show ((w.alloc (.cells #[.slice E p.enums.length ek, .slice C p.nodes.length ck] 25)).alloc (.cells #[.int .i64 0, .int .i64 0, .int .i64 0] 29)).heap[w.heap.size + 1]? = some (.cells #[.int .i64 0, .int .i64 0, .int .i64 0] 29 (0, 0)) from alloc_at (by simp))
    have BP := Lib.hid (show ((w.alloc (.cells #[.slice E p.enums.length ek, .slice C p.nodes.length ck] 25)).alloc (.cells #[.int .i64 0, .int .i64 0, .int .i64 0] 29)).heap[w.heap.size]? = some (.cells #[.slice E p.enums.length ek, .slice C p.nodes.length ck] 25 (0, 0)) from alloc_below (heap_alloc_new w _))
    generalize (w.alloc (.cells #[.slice E p.enums.length ek, .slice C p.nodes.length ck] 25)).alloc (.cells #[.int .i64 0, .int .i64 0, .int .i64 0] 29) = V at *
    go_wp2_with (first
      | (go_at_call 23
         (with_reducible refine (HRI.out _ (HB.out.trans (HV.out.mono hsz))).mono ?_)
         rintro e w7 ⟨rfl, hb7⟩
         obtain ⟨V1, rfl⟩ : ∃ W, W = w7 := ⟨_, rfl⟩
         have HB7 := Lib.hid (HV.out.trans (hb7.mono HV.out.size))
         have BF7 := Lib.hid (box_next hb7 BF.out)
         have BP7 := Lib.hid (box_next hb7 BP.out)
         clear hb7)
      | (go_at_call 24
         (with_reducible refine (newScope_any _).mono ?_)
         rintro e w8 ⟨P, e1, c1, n1, t1, rfl, hs8, hb8, le1, lc1, ln1, lt1, _⟩
         obtain ⟨V2, rfl⟩ : ∃ W, W = w8 := ⟨_, rfl⟩
         have HS8 := Lib.hid hs8
         have HB8 := Lib.hid hb8
         have BF8 := Lib.hid (box_next hb8 BF7.out)
         have BP8 := Lib.hid (box_next hb8 BP7.out)
         obtain ⟨p0, p1⟩ := row2 BP8.out
         clear hb8 hs8))
    have hs17 := HB7.out.size
    have hszF := lt_of_heap BF7.out
    have HBW := Lib.hid (HB.out.trans (HB7.out.mono hsz))
    have hszW := HBW.out.size
    clear p0 p1
    go_loopg [24] p.enums.length (fun g v wr => ∃ (k : Nat) (s : SProg), k + g = p.enums.length ∧ v = .int .i64 k ∧ enumsF 0 .new p.enums = enumsF k s (p.enums.drop k) ∧ ScopeAt wr P e1 c1 n1 t1 s ∧ Below V1.heap.size V1 wr)
    case atStart => exact ⟨0, _, by omega, rfl, rfl, HS8.out, HB8.out⟩
    case round =>
      obtain ⟨wq, rfl⟩ : ∃ W, W = wr := ⟨_, rfl⟩
      obtain ⟨k, s, hkg, rfl, hto, hsq, hbq⟩ := hrel
      have HK := Lib.hid hkg
      have HTO := Lib.hid hto
      have HSQ := Lib.hid hsq
      have HBQ := Lib.hid hbq
      have HQ0 := Lib.hid (HBW.out.trans (hbq.mono hszW))
      have BFQ := Lib.hid (box_next hbq BF7.out)
      have BPQ := Lib.hid (box_next hbq BP7.out)
      have hkl : k ≤ p.enums.length := by omega
      clear hkg hto hsq hbq
      by_cases hlt : k < p.enums.length
      · obtain ⟨q, hq⟩ : ∃ q, p.enums[k]? = some q := ⟨_, List.getElem?_eq_getElem hlt⟩
        have HDR := Lib.hid (drop_consS hq)
        obtain ⟨Lq, hEq, hRq⟩ := HEE.out k q hq
        have HEQ := Lib.hid hRq
        obtain ⟨s0, A1, m1, k1, rfl⟩ := hRq.shape
        obtain ⟨a, ea, ha, haa, d0, d1⟩ := elem2 (hEq.under HQ0.out)
        subst ea
        have hal := Lib.hid ((Below.refl wq.heap.size wq).alloc (Nat.le_refl _) (.cells #[.string s0, .slice A1 m1 k1] 46))
        have HADD := Lib.hid (addEnum_any HEQ.out (HSQ.out.under hal.out) (HQ0.out.trans (hal.out.mono HQ0.out.size)))
        clear hq hEq hRq
        cases hok : enumOk s q
        · have HOK := Lib.hid hok
          have HNO := Lib.hid (check_enum (made := made) H0.out (show enumsF 0 .new p.enums = .inr (k : Int) by rw [HTO.out, HDR.out, enumsF_cons, if_neg (by rw [hok]; simp)]))
          clear hok
          go_wp2_with (first
            | (go_at_call 25
               (with_reducible refine HADD.out.mono ?_)
               rintro e w9 ⟨he, hk9, _⟩
               rw [HOK.out] at he
               subst he
               obtain ⟨V9, rfl⟩ : ∃ W, W = w9 := ⟨_, rfl⟩
               have HB9 := Lib.hid ((HBQ.out.trans (hal.out.mono HBQ.out.size)).trans (hk9.below (B := V1.heap.size) (by intro x hx; simp only [List.mem_cons, List.not_mem_nil, or_false] at hx; rcases hx with rfl | rfl <;> omega) (Nat.le_trans HBQ.out.size hal.out.size)))
               clear hk9)
            | (go_at_call 26
               (with_reducible refine (fault_any _ _ _).mono ?_)
               rintro e w10 ⟨rfl, hb10⟩
               obtain ⟨V10, rfl⟩ : ∃ W, W = w10 := ⟨_, rfl⟩
               have HB10 := Lib.hid (HB9.out.trans (hb10.mono HB9.out.size))
               have BF10 := Lib.hid (box_next HB10.out BF7.out)
               obtain ⟨q0, q1, q2⟩ := row3 BF10.out
               have g0 := row_frozen BF10.out 0
               have g1 := row_frozen BF10.out 1
               have g2 := row_frozen BF10.out 2
               clear hb10))
          exact bodyPost_ret (check_results rfl (set_row3 _ _ _ BF10.out)) rfl ⟨by rw [HNO.out], below_set3 (HB7.out.trans (HB10.out.mono hs17)) (by omega) _ _ _⟩
        · have HOK := Lib.hid hok
          have HNX := Lib.hid (show enumsF 0 .new p.enums = enumsF (k + 1 : Nat) (s.addEnum q) (p.enums.drop (k + 1)) by rw [HTO.out, HDR.out, enumsF_cons, if_pos hok]; rfl)
          clear hok
          go_wp2_with (go_at_call 25
                       (with_reducible refine HADD.out.mono ?_)
                       rintro e w9 ⟨he, hk9, hs9⟩
                       rw [HOK.out] at he
                       subst he
                       have HB9 := Lib.hid ((HBQ.out.trans (hal.out.mono HBQ.out.size)).trans (hk9.below (B := V1.heap.size) (by intro x hx; simp only [List.mem_cons, List.not_mem_nil, or_false] at hx; rcases hx with rfl | rfl <;> omega) (Nat.le_trans HBQ.out.size hal.out.size)))
                       have HS9 := Lib.hid (hs9 HOK.out)
                       clear hk9 hs9)
          go_roundg (p.enums.length - (k + 1))
          case measure => have := HK.out; omega
          case rel => exact ⟨k + 1, _, by omega, by go_num, HNX.out, HS9.out, HB9.out⟩
      · have hke : k = p.enums.length := by omega
        have HCN := Lib.hid (check_nodes (made := made) H0.out (show enumsF 0 .new p.enums = .inl s by rw [HTO.out, hke, List.drop_length]; rfl))
        obtain ⟨p0, p1⟩ := row2 BPQ.out
        clear hke
        go_wp2_with fail
        clear p0 p1
        go_loopg [39] p.nodes.length (fun g v wr => ∃ (j : Nat) (sj : SProg), j + g = p.nodes.length ∧ v = .int .i64 j ∧ nodesF 0 s p.nodes = nodesF j sj (p.nodes.drop j) ∧ ScopeAt wr P e1 c1 n1 t1 sj ∧ Below V1.heap.size V1 wr)
        case atStart => exact ⟨0, _, by omega, rfl, rfl, HSQ.out, HBQ.out⟩
        case round =>
          obtain ⟨wz, rfl⟩ : ∃ W, W = wr := ⟨_, rfl⟩
          obtain ⟨j, sj, hjg, rfl, htz, hsz', hbz⟩ := hrel
          have HJ := Lib.hid hjg
          have HTZ := Lib.hid htz
          have HSZ := Lib.hid hsz'
          have HBZ := Lib.hid hbz
          have HZ0 := Lib.hid (HBW.out.trans (hbz.mono hszW))
          have BFZ := Lib.hid (box_next hbz BF7.out)
          have hjl : j ≤ p.nodes.length := by omega
          clear hjg htz hsz' hbz
          by_cases hlt2 : j < p.nodes.length
          · obtain ⟨n, hn⟩ : ∃ n, p.nodes[j]? = some n := ⟨_, List.getElem?_eq_getElem hlt2⟩
            have HDR := Lib.hid (drop_consS hn)
            have HFIT := Lib.hid (node_fit (right_nodes H0.out n (List.mem_of_getElem? hn)))
            obtain ⟨Ln, hEn, hRn⟩ := HCE.out j n hn
            have HNA := Lib.hid hRn
            obtain ⟨s0, A1, m1, k1, A2, m2, k2, A3, m3, k3, A4, m4, k4, rfl⟩ := hRn.shape
            obtain ⟨a, ea, ha, haa, d0, d1, d2, d3, d4⟩ := elem5 (hEn.under HZ0.out)
            subst ea
            have hal := Lib.hid ((Below.refl wz.heap.size wz).alloc (Nat.le_refl _) (.cells #[.string s0, .slice A1 m1 k1, .slice A2 m2 k2, .slice A3 m3 k3, .slice A4 m4 k4] 41))
            have HADD := Lib.hid (addNode_any HNA.out HFIT.out (HZ0.out.trans (hal.out.mono HZ0.out.size)) (HSZ.out.under hal.out) (Nat.le_trans hszW ln1) (Nat.le_trans hszW lt1))
            clear hn hEn hRn
            cases hst : nodeStep sj n with
            | inr b =>
              have HST := Lib.hid hst
              have HNO := Lib.hid (show checkQ made p = (4, (j : Int), b) by rw [HCN.out, HTZ.out, HDR.out, nodesF_no hst])
              clear hst
              go_wp2_with (first
                | (go_at_call 27
                   (with_reducible refine HADD.out.mono ?_)
                   rintro e w9 ⟨he, hk9⟩
                   rw [HST.out] at he
                   replace he : e = .returned (.tuple #[.int .i64 b, .bool false]) := he
                   subst he
                   obtain ⟨V9, rfl⟩ : ∃ W, W = w9 := ⟨_, rfl⟩
                   have HB9 := Lib.hid ((HBZ.out.trans (hal.out.mono HBZ.out.size)).trans (hk9.below (B := V1.heap.size) (by intro x hx; simp only [List.mem_cons, List.not_mem_nil, or_false] at hx; rcases hx with rfl | rfl <;> omega) (Nat.le_trans HBZ.out.size hal.out.size)))
                   clear hk9)
                | (go_at_call 26
                   (with_reducible refine (fault_any _ _ _).mono ?_)
                   rintro e w10 ⟨rfl, hb10⟩
                   obtain ⟨V10, rfl⟩ : ∃ W, W = w10 := ⟨_, rfl⟩
                   have HB10 := Lib.hid (HB9.out.trans (hb10.mono HB9.out.size))
                   have BF10 := Lib.hid (box_next HB10.out BF7.out)
                   obtain ⟨q0, q1, q2⟩ := row3 BF10.out
                   have g0 := row_frozen BF10.out 0
                   have g1 := row_frozen BF10.out 1
                   have g2 := row_frozen BF10.out 2
                   clear hb10))
              exact bodyPost_ret (check_results rfl (set_row3 _ _ _ BF10.out)) rfl ⟨by rw [HNO.out], below_set3 (HB7.out.trans (HB10.out.mono hs17)) (by omega) _ _ _⟩
            | inl s2 =>
              have HST := Lib.hid hst
              have HNX := Lib.hid (show nodesF 0 s p.nodes = nodesF (j + 1 : Nat) s2 (p.nodes.drop (j + 1)) by rw [HTZ.out, HDR.out, nodesF_yes hst]; rfl)
              clear hst
              go_wp2_with (go_at_call 27
                           (with_reducible refine HADD.out.mono ?_)
                           rintro e w9 ⟨he, hk9⟩
                           rw [HST.out] at he
                           obtain ⟨he, hs9⟩ : e = .returned (.tuple #[.int .i64 0, .bool true]) ∧ ScopeAt w9 P e1 c1 n1 t1 s2 := he
                           subst he
                           have HB9 := Lib.hid ((HBZ.out.trans (hal.out.mono HBZ.out.size)).trans (hk9.below (B := V1.heap.size) (by intro x hx; simp only [List.mem_cons, List.not_mem_nil, or_false] at hx; rcases hx with rfl | rfl <;> omega) (Nat.le_trans HBZ.out.size hal.out.size)))
                           have HS9 := Lib.hid hs9
                           clear hk9 hs9)
              go_roundg (p.nodes.length - (j + 1))
              case measure => have := HJ.out; omega
              case rel => exact ⟨j + 1, _, by omega, by go_num, HNX.out, HS9.out, HB9.out⟩
          · have hje : j = p.nodes.length := by omega
            have HY := Lib.hid (show checkQ made p = (0, 0, 0) by rw [HCN.out, HTZ.out, hje, List.drop_length]; rfl)
            obtain ⟨q0, q1, q2⟩ := row3 BFZ.out
            have g0 := row_frozen BFZ.out 0
            have g1 := row_frozen BFZ.out 1
            have g2 := row_frozen BFZ.out 2
            clear hje
            go_wp2_with fail
            exact bodyPost_ret (check_results rfl (set_row3 _ _ _ BFZ.out)) rfl ⟨by rw [HY.out], below_set3 (HB7.out.trans (HBZ.out.mono hs17)) (by omega) _ _ _⟩
  · have H0 := Lib.hid (check_bad h0)
    have hd : (rightL made p != 0) = true := by simp [h0]
    generalize rightL made p = r at *
    clear h0
    go_enter Tryz.func10, Tryz.ntmps10
    go_wp2_with fail
    have a1 := Lib.hid ((Below.refl w.heap.size w).alloc (Nat.le_refl _) (.cells #[.slice E p.enums.length ek, .slice C p.nodes.length ck] 25))
    have HV := Lib.hid (a1.out.alloc a1.out.size (.cells #[.int .i64 0, .int .i64 0, .int .i64 0] 29))
    have BF := Lib.hid (show ((w.alloc (.cells #[.slice E p.enums.length ek, .slice C p.nodes.length ck] 25)).alloc (.cells #[.int .i64 0, .int .i64 0, .int .i64 0] 29)).heap[w.heap.size + 1]? = some (.cells #[.int .i64 0, .int .i64 0, .int .i64 0] 29 (0, 0)) from alloc_at (by simp))
    generalize (w.alloc (.cells #[.slice E p.enums.length ek, .slice C p.nodes.length ck] 25)).alloc (.cells #[.int .i64 0, .int .i64 0, .int .i64 0] 29) = V at *
    go_wp2_with (go_at_call 23
                 (with_reducible refine (HRI.out _ (HB.out.trans (HV.out.mono hsz))).mono ?_)
                 rintro e w7 ⟨rfl, hb7⟩
                 obtain ⟨V1, rfl⟩ : ∃ W, W = w7 := ⟨_, rfl⟩
                 have HB7 := Lib.hid (HV.out.trans (hb7.mono HV.out.size))
                 have BF7 := Lib.hid (box_next hb7 BF.out)
                 obtain ⟨q0, q1, q2⟩ := row3 BF7.out
                 have g0 := row_frozen BF7.out 0
                 have g1 := row_frozen BF7.out 1
                 have g2 := row_frozen BF7.out 2
                 clear hb7)
    exact bodyPost_ret (check_results rfl (set_row3 _ _ _ BF7.out)) rfl ⟨by rw [H0.out], below_set3 HB7.out (by omega) _ _ _⟩
end Go.Proofs.YtbpbnebcbjacdaaGreat
