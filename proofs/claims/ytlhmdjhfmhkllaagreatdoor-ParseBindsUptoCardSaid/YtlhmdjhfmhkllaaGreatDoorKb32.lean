/-
  Texts joined.
-/
import Derived.Test.YtlhmdjhfmhkllaaGreatDoorKb25
import Derived.Test.YtlhmdjhfmhkllaaGreatDoorKb31
namespace Go.Proofs.YtlhmdjhfmhkllaaGreatDoor
open Go.RowKit
section
variable {X : Type} {R : World → List Value → X → Prop} {B : Nat} {T TS : TypeId} {n bytes : Nat} {z : Value} (hsub : ∀ w w' L x, Sub w w' → R w L x → R w' L x)
set_option maxRecDepth 100000 in
set_option maxHeartbeats 1000000 in
include hsub in
/-- one element more -/
theorem step_ownL1 {ops : Array Oper} {o : Oper} {a : Act} {K' : Act → World → Prop} {Q : Exit → Act → World → Prop} {E : Prop} {W : World} {v : Value} {xs : List X} {x : X} {L : List Value} {K : Nat} (hgd : o.guard = none) (s y : Operand)
    (hop : o.op = .call { callee := .builtin .append, args := #[s, y], argTypes := #[TS, TS] }) (hT : Tryz.prog.underlying TS = some (.slice T)) (hI : (Tryz.prog.info? T).map (fun i => (i.zero, i.size, i.bytes)) = some (some z, n, bytes))
    (hz : z.cells.size = n) (hn : 0 < n) (hby : bytes ≤ 4096) (hs : a.eval s = v) (hy : a.eval y = .slice (some ⟨K, 0, none⟩) 1 1) (hK : W.heap[K]? = some (.cells L.toArray T (0, 0))) (hL : L.length = n) (hone : ∀ u ∈ L, u.oneCell' = true)
    (hO : OwnL R B T n W v xs) (hR : R (offW B v.ownBlock W) L x) (hl : xs.length ≤ 2097152) (hB : B ≤ W.heap.size)
    (h : ∀ v' w', OwnL R B T n w' v' (xs ++ [x]) → W.grownBy w' v.ownBlock → (v'.ownBlock = v.ownBlock ∨ v'.ownBlock = some W.heap.size) → K' (a.put o.dst v') w') : if Region.wanted o (yielded ops a.tmps) = true then Oper.wp Tryz.prog o a W K' Q else E := by
  have hw : Region.wanted o (yielded ops a.tmps) = true := (by simp [Region.wanted, hgd]); rw [if_pos hw]; obtain ⟨i0, hi, hz0, hz1, hz2⟩ := info_parts hI; obtain ⟨Ls, hown, hll, hln, hlr⟩ := hO; have hb2 : (xs.length + 1) * bytes ≤ 140737488355328 := by
    have : (xs.length + 1) * bytes ≤ 4194304 * 4096 := Nat.mul_le_mul (by omega) hby
    omega
  obtain ⟨v', w', hr, h1, h2, _, h5⟩ := run_append_own_at (P := Tryz.prog) W B TS o.type T i0 z n bytes hT hi hz0 hz1 hz2 hz hn v xs.length _ hown ⟨K, 0, none⟩ 1 1 L (by simp [hL]) (fun j u hj => by
    have hadd : (⟨K, 0, none⟩ : Addr).add j = ⟨K, j, none⟩ := (by unfold Addr.add; split <;> simp_all)
    rw [hadd, cell_of_row _ _ _ _ _ _ hK]; simpa using hj) hone (by unfold maxLen; omega) hb2 hB
  unfold Oper.wp; simp only [execOp, hop, resolve, invoke, builtin, Sem.run_bind, Sem.run_pure, Result.andThen_ok, List.map_toArray, List.map_cons, List.map_nil, hs, hy, hr]; refine h v' w' ⟨Ls ++ [L], by simpa using h1, by simp [hll], ?_, ?_⟩ h2 h5
  · intro M hM; rcases List.mem_append.1 hM with hM | hM
    · exact hln M hM
    · simp at hM; subst hM; exact hL
  · have key : Sub (offW B v.ownBlock W) (offW B v'.ownBlock w') := fun ad u hu => by
      obtain ⟨g1, g2, g3⟩ := off_cell hu; have g4 := World.block_lt_of_cell? W _ g3; have g5 : v'.ownBlock ≠ some ad.block := by
        rcases h5 with e | e
        · rw [e]; exact g2
        · rw [e]; intro e2; injection e2 with e2; omega
      rw [off_mk g1 g5, World.cell?_of_block (h2.block _ g4 (fun e => g2 e.symm))]; exact g3
    intro i M y hM hy; by_cases hi : i < Ls.length
    · rw [List.getElem?_append_left hi] at hM; rw [List.getElem?_append_left (by omega)] at hy; exact hsub _ _ _ _ key (hlr i M y hM hy)
    · rw [List.getElem?_append_right (by omega)] at hM; rw [List.getElem?_append_right (by omega)] at hy; have e1 : i - Ls.length = 0 := by
        by_cases h0 : i - Ls.length = 0
        · exact h0
        · rw [List.getElem?_eq_none (by simp; omega)] at hM; cases hM
      have e2 : i - xs.length = 0 := (by omega); rw [e1] at hM; rw [e2] at hy; simp at hM hy; subst hM hy; exact hsub _ _ _ _ key hR
end
/-- a world without a block -/
abbrev hideW (ob : Option Nat) (w : World) : World := offW 0 ob w
theorem hide_sub {ob : Option Nat} {w w' : World} (h : Sub w w') : Sub (hideW ob w) (hideW ob w') := fun a u hu => by
  obtain ⟨_, g2, g3⟩ := off_cell hu
  rw [off_mk (Nat.zero_le _) g2]
  exact h _ _ g3
theorem hide_out (ob : Option Nat) (w : World) : Sub (hideW ob w) w := fun _ _ hu => (off_cell hu).2.2
/-- a list of the call's own whose elements' trees lie beside another block too -/
abbrev OwnH {X : Type} (R : World → List Value → X → Prop) (e : Option Nat) (B : Nat) (T : TypeId) (n : Nat) (w : World) (v : Value) (xs : List X) : Prop := OwnL (fun w L x => R (hideW e w) L x) B T n w v xs
section
variable {X : Type} {R : World → List Value → X → Prop} {B : Nat} {T : TypeId} {n : Nat} {e e' : Option Nat} (hsub : ∀ w w' L x, Sub w w' → R w L x → R w' L x)
include hsub in
theorem hideSub : ∀ w w' (L : List Value) (x : X), Sub w w' → R (hideW e w) L x → R (hideW e w') L x := fun _ _ _ _ hs h => hsub _ _ _ _ (hide_sub hs) h
include hsub in
/-- that other block grows -/
theorem OwnL.beside {w w' : World} {v : Value} {xs : List X} (h : OwnH R e B T n w v xs) (hg : w.grownBy w' e) (he : e' = e ∨ e' = some w.heap.size) (hne : ∀ g, v.ownBlock = some g → e ≠ some g) : OwnH R e' B T n w' v xs := by
  obtain ⟨Ls, h1, h2, h3, h4⟩ := h; refine ⟨Ls, ⟨h1.1, ?_⟩, h2, h3, fun i L x hL hx => hsub _ _ _ _ (fun a u hu => ?_) (h4 i L x hL hx)⟩
  · rcases h1.2 with h5 | ⟨g, cap, cur, rfl, hb, hh, hr⟩
    · exact .inl h5
    · exact .inr ⟨g, cap, cur, rfl, hb, (hg.block g (lt_of_heap hh) (fun k => hne g rfl k.symm)).trans hh, hr⟩
  · obtain ⟨_, g2, g3⟩ := off_cell hu; obtain ⟨g4, g5, g6⟩ := off_cell g3; have g7 := World.block_lt_of_cell? w _ g6; have g8 : e' ≠ some a.block := by
      rcases he with k | k
      · rw [k]; exact g2
      · rw [k]; intro k2; injection k2 with k2; omega
    rw [off_mk (Nat.zero_le _) g8, off_mk g4 g5, World.cell?_of_block (hg.block _ g7 (fun k => g2 k.symm))]; exact g6
include hsub in
/-- what is newer than both blocks lies beside them -/
theorem hide_new {w : World} {v : Value} {B2 : Nat} {L : List Value} {x : X} (h : R (newW B2 w) L x) (hB : B ≤ B2) (h1 : ∀ g, v.ownBlock = some g → g < B2) (h2 : ∀ g, e = some g → g < B2) : R (hideW e (offW B v.ownBlock w)) L x := by
  refine hsub _ _ _ _ (fun a u hu => ?_) h; obtain ⟨g1, g2⟩ := new_cell hu; rw [off_mk (Nat.zero_le _) (fun k => by have := h2 _ k; omega), off_mk (by omega) (fun k => by have := h1 _ k; omega)]; exact g2
include hsub in
theorem OwnL.bare {w : World} {v : Value} {xs : List X} (h : OwnH R e B T n w v xs) : SliceAt (newW B w) (R (newW B w)) v xs := by
  obtain ⟨A, c, h1, h2, h3, h4⟩ := OwnL.at_ (hideSub hsub) h; refine ⟨A, c, h1, h2, h3, fun i x hx => ?_⟩; obtain ⟨L, h5, h6⟩ := h4 i x hx; exact ⟨L, h5, hsub _ _ _ _ (hide_out _ _) h6⟩
end
def zeroEn : Value := .agg #[.string ⟨#[]⟩, .slice none 0 0]
theorem infoEn : (Tryz.prog.info? 66).map (fun i => (i.zero, i.size, i.bytes)) = some (some zeroEn, 2, 40) := by kernel_rfl
def zeroNo : Value := .agg #[.string ⟨#[]⟩, .slice none 0 0, .slice none 0 0, .slice none 0 0, .slice none 0 0]
theorem infoNo : (Tryz.prog.info? 51).map (fun i => (i.zero, i.size, i.bytes)) = some (some zeroNo, 5, 112) := by kernel_rfl
theorem subEn : ∀ (w w' : World) (L : List Value) (x : QEnum), Sub w w' → EnumAt w L x → EnumAt w' L x := fun _ _ _ _ hs h => h.sub hs
theorem subNo : ∀ (w w' : World) (L : List Value) (x : QNode), Sub w w' → NodeAt w L x → NodeAt w' L x := fun _ _ _ _ hs h => h.sub hs
theorem cellEn {w : World} {L : List Value} {x : QEnum} (h : EnumAt w L x) : ∀ u ∈ L, u.oneCell' = true := by
  obtain ⟨_, _, _, _, rfl⟩ := h.shape; intro u hu; simp only [List.mem_cons, List.not_mem_nil, or_false] at hu; rcases hu with rfl | rfl <;> rfl
theorem cellNo {w : World} {L : List Value} {x : QNode} (h : NodeAt w L x) : ∀ u ∈ L, u.oneCell' = true := by
  obtain ⟨_, _, _, _, _, _, _, _, _, _, _, _, _, rfl⟩ := h.shape; intro u hu; simp only [List.mem_cons, List.not_mem_nil, or_false] at hu; rcases hu with rfl | rfl | rfl | rfl | rfl <;> rfl
end Go.Proofs.YtlhmdjhfmhkllaaGreatDoor

namespace Go.Proofs.YtlhmdjhfmhkllaaGreatDoor
open Go.RowKit
theorem program_info : (Tryz.prog.info? 26).map (·.size) = some 2 := by kernel_rfl
set_option maxRecDepth 100000 in
theorem program_results {tmps : Array Value} {w : World} {N : Nat} {x0 x1 : Value} (hp : tmps.getD 2 undef = .pointer (some ⟨N, 0, none⟩)) (hg : w.heap[N]? = some (.cells #[x0, x1] 26 (0, 0))) :
    (results Tryz.f19 tmps).run Tryz.prog w = .ok (.agg #[x0, x1]) w :=
  results_cell_row Tryz.results19 tmps w N 26 _ (0, 0) _ hp hg Tryz.underlying26 rfl program_info
def RProgV (w : World) (v : Value) (x : QProg) : Prop := ∃ L : List Value, v = .agg L.toArray ∧ ProgAt w L x
theorem two_alloc {w : World} {A C : Obj} : ((w.alloc A).alloc C).heap[w.heap.size]? = some A ∧ ((w.alloc A).alloc C).heap[w.heap.size + 1]? = some C := ⟨alloc_below (heap_alloc_new w A), by have := heap_alloc_new (w.alloc A) C; simpa using this⟩
/-- what is gathered so far -/
def ProgR (E : List Tok → Pr Ex) (N G o : Nat) (q : Out QProg) (n : Nat) (w : World) (g : Nat) (wr : World) : Prop :=
  ∃ (m : Nat) (es : List QEnum) (ns : List QNode) (ts : List Tok) (ev nv : Value), m = g ∧ programF E m es ns ts = some q ∧ es.length + ns.length + m = n + 1 ∧ wr.heap[w.heap.size + 1]? = some (.cells #[ev, nv] 26 (0, 0)) ∧ wr.heap[w.heap.size]? = some (.cells #[.slice none 0 0, .slice none 0 0] 26 (0, 0)) ∧
    OwnH EnumAt nv.ownBlock (w.heap.size + 2) 66 2 wr ev es ∧ OwnH NodeAt ev.ownBlock (w.heap.size + 2) 51 5 wr nv ns ∧ PState wr N G ts o ∧ KeptN N w wr
set_option maxRecDepth 100000 in
set_option maxHeartbeats 4000000 in
theorem pprogram_any {E : PrX} (HE : PartOk 31 REx (fun o ts => E ts o)) : PartOk 19 RProgV (fun o => programP fun ts => E ts o) := by
  intro N G o ts q hq w h; have HQ0 := Lib.hid (show programF (fun ts => E ts o) (ts.length + 1) [] [] ts = some q from hq); have HNO := Lib.hid (node_any HE); have hN := h.lt; have hG := h.2.2.1; have hts := h.1.1; have HP0 := Lib.hid ((h.under ((Below.refl _ _).alloc (Nat.le_refl _) (.cells #[.slice none 0 0, .slice none 0 0] 26))).under ((Below.refl _ _).alloc (Nat.le_refl _) (.cells #[.slice none 0 0, .slice none 0 0] 26))); have HK0 := Lib.hid (((KeptN.refl N w).alloc (.cells #[.slice none 0 0, .slice none 0 0] 26)).alloc (.cells #[.slice none 0 0, .slice none 0 0] 26)); have f1 := tok_f1; clear h hq HE; go_enter Tryz.func19, Tryz.ntmps19
  go_wp2_with fail
  go_loopg [] (ts.length + 1) (ProgR (fun ts => E ts o) N G o q ts.length w)
  case atStart => exact ⟨_, [], [], ts, _, _, rfl, HQ0.out, by simp, two_alloc.2, two_alloc.1, OwnL.nil _, OwnL.nil _, HP0.out, HK0.out⟩
  case round =>
    obtain ⟨m, es, ns, ts', ev, nv, rfl, hs, hlen, hbk, hbr, hoe, hon, hp, hk⟩ := hrel; obtain ⟨Wq, rfl⟩ : ∃ W, W = wr := ⟨_, rfl⟩; cases m with
    | zero => rw [programF] at hs; cases hs
    | succ m =>
      cases ts' with
      | nil => rw [programF, if_pos rfl] at hs; cases hs
      | cons t r =>
        rw [programF, if_neg (List.cons_ne_nil _ _)] at hs; have HLT1 := hoe.lt; have HLT2 := hon.lt; have hUNe := hoe.unlike hon (by decide); have hUNn := hon.unlike hoe (by decide); have hlen1 : es.length ≤ 2097152 ∧ ns.length ≤ 2097152 := (by omega); have HNX := Lib.hid (next_any hp); have HTL := Lib.hid (by obtain ⟨_, _, _, _, _, _, _, _, _, _, _, _, h, _⟩ := hp.head; exact h : t.text.length ≤ maxLen); obtain ⟨AE, mE, kE, rfl, hmE⟩ := hoe.shape; obtain ⟨AN, mN, kN, rfl, hmN⟩ := hon.shape; have HME := Lib.hid hmE; have HMN := Lib.hid hmN; have HB2' := hk.size; have HOe0 := Lib.hid hoe; have HOn0 := Lib.hid hon; have HPq := Lib.hid hp; have HKq := Lib.hid hk; have BKq := Lib.hid hbk; have BRq := Lib.hid hbr; have HLEN := Lib.hid hlen; clear hoe hon hp hk hbk hbr hlen hmE hmN; by_cases ht : t.text = typeW
        · have HQa := Lib.hid (show bindP (enumP (t :: r)) (fun e ts => programF (fun ts => E ts o) m (es ++ [e]) ns ts) = some q by have h2 : atP typeW (t :: r) = true := decide_eq_true ht; rwa [if_pos h2] at hs); have e1 : ((str t.text).toList == [116, 121, 112, 101]) = true := (by rw [ht, str_toL]; rfl); clear hs ht
          go_wp2_with (go_at_call 40
                       (with_reducible refine HNX.out.mono ?_); rintro e w7 ⟨rfl, hb7⟩; obtain ⟨V2, rfl⟩ : ∃ W, W = w7 := ⟨_, rfl⟩; have HP2 := Lib.hid (HPq.out.under hb7); have HK2 := Lib.hid (HKq.out.trans (KeptN.of_below hb7)); have HOe := Lib.hid (HOe0.out.same (hideSub subEn) (Same.below hb7)); have HOn := Lib.hid (HOn0.out.same (hideSub subNo) (Same.below hb7)); have BK2 := Lib.hid (box_next hb7 BKq.out); have BR2 := Lib.hid (box_next hb7 BRq.out); have q2 : Wq.heap.size ≤ V2.heap.size := hb7.size; have HB2 := Lib.hid (show w.heap.size + 2 ≤ V2.heap.size from lt_of_heap BK2.out); obtain ⟨p0, p1⟩ := row2 BK2.out; simp only [Tok.cells]; clear hb7)
          have HLTm := Lib.hid (fun g hg => Nat.lt_of_lt_of_le (HLT1 g hg).2 (show Wq.heap.size ≤ V2.heap.size from q2)); have HLTo := Lib.hid (fun g hg => Nat.lt_of_lt_of_le (HLT2 g hg).2 (show Wq.heap.size ≤ V2.heap.size from q2)); have HLB := Lib.hid (fun g hg => (HLT1 g hg).1); have HUN := Lib.hid hUNn; have hlen1 : es.length ≤ 2097152 := hlen1.1; have q22 : w.heap.size + 2 ≤ V2.heap.size := HB2.out; refine wp_region_held_drew (S := fun _ => True) (by kernel_rfl) True.intro (fun hHeld => ?_); refine take_now 0 rfl ?_; try simp only [Act.put, setA, setZ, setS]
          refine take_now 2 rfl ?_; try simp only [Act.put, setA, setZ, setS]
          refine wpAnyH_ready (rs := [1, 3]) (by kernel_rfl) (by simp) (cons_at 1 rfl (fun K hK => ?_) (cons_at 3 rfl (fun K hK => ?_) AllReadyH.nil))
          · go_simp
            refine hK.out _ _ True.intro (fun hHeld => ?_); clear hK K; try simp only [Act.put, setA, setZ, setS]
            refine only_at 3 (by kernel_rfl) rfl (fun K hK => ?_); go_simp
            (go_at_call 42
             rcases bindP_some HQa.out with ⟨f, hf, rfl⟩ | ⟨xb, tsb, hb, hqb⟩
             · (with_reducible refine (penum_any N G o _ _ hf _ (HP2.out.under (Below.refl _ _).drew)).mono ?_); rintro e w7 ⟨rfl, hk7⟩; exact ⟨rfl, rfl, (HK2.out.trans (KeptN.of_below (Below.refl _ _).drew)).trans hk7⟩
             (with_reducible refine (penum_any N G o _ _ hb _ (HP2.out.under (Below.refl _ _).drew)).mono ?_); rintro e w7 ⟨vb, rfl, hr7, hp7, hk7⟩; obtain ⟨V5, rfl⟩ : ∃ W, W = w7 := ⟨_, rfl⟩; have HQ5 := Lib.hid hqb; have HP5 := Lib.hid hp7; have HK5 := Lib.hid ((HK2.out.trans (KeptN.of_below (Below.refl _ _).drew)).trans hk7); obtain ⟨L5, rfl, hx⟩ := hr7; have HX5 := Lib.hid (show EnumAt (newW V2.heap.size V5) L5 xb from hx); obtain ⟨s5, A5, m5, k5, rfl⟩ := hx.shape; have HS5 := Lib.hid ((show Same (w.heap.size + 2) V2 V2.drew from Same.refl _ _).trans (hk7.same (by omega))); have q5 : V2.heap.size ≤ V5.heap.size := hk7.size; have BK5 := Lib.hid (hk7.cells (show V2.drew.heap[w.heap.size + 1]? = _ from BK2.out) (by omega)); have BR5 := Lib.hid (hk7.cells (show V2.drew.heap[w.heap.size]? = _ from BR2.out) (by omega)); obtain ⟨p0, p1⟩ := row2 BK5.out; clear hx hqb hp7 hk7 hb)
            refine hK.out _ _ True.intro (fun hHeld => ?_); clear hK K; try simp only [Act.put, setA, setZ, setS]
            refine only_at 4 (by kernel_rfl) rfl (fun K hK => ?_); go_simp
            refine hK.out _ _ True.intro (fun hHeld => ?_); clear hK K; try simp only [Act.put, setA, setZ, setS]
            have HOm := Lib.hid ((HOe.out.same (hideSub subEn) HS5.out).same (hideSub subEn) ((Same.refl (w.heap.size + 2) V5).alloc (.cells [.string s5, .slice A5 m5 k5].toArray 66))); have HOo := Lib.hid ((HOn.out.same (hideSub subNo) HS5.out).same (hideSub subNo) ((Same.refl (w.heap.size + 2) V5).alloc (.cells [.string s5, .slice A5 m5 k5].toArray 66))); have BK6 := Lib.hid (alloc_below (o := (.cells [.string s5, .slice A5 m5 k5].toArray 66)) BK5.out); have BR6 := Lib.hid (alloc_below (o := (.cells [.string s5, .slice A5 m5 k5].toArray 66)) BR5.out); have hB6 : w.heap.size + 2 ≤ (V5.alloc (.cells [.string s5, .slice A5 m5 k5].toArray 66)).heap.size := (by have := HB2.out; simp; omega); refine only_at 5 (by kernel_rfl) rfl (fun K hK => ?_)
            (refine step_ownL1 (R := fun w L x => EnumAt (hideW (Value.slice AN mN kN).ownBlock w) L x) (B := w.heap.size + 2) (v := .slice AE mE kE) (xs := es) (L := [.string s5, .slice A5 m5 k5]) (hideSub subEn) rfl _ _ rfl Tryz.underlying23 infoEn rfl (by decide) (by decide) rfl rfl (heap_alloc_new _ _) rfl (cellEn HX5.out) HOm.out (hide_new subEn (HX5.out.sub (Same.refl V2.heap.size V5 |>.alloc (.cells [.string s5, .slice A5 m5 k5].toArray 66)).sub) (by have := HB2.out; omega) (fun g hg => (HLTm.out g hg)) (fun g hg => (HLTo.out g hg))) hlen1 hB6 ?_
             intro v6 w6 ho6 hg6 hat6; obtain ⟨A9, m9, k9, rfl, hm9⟩ := ho6.shape; clear hm9; obtain ⟨V6, rfl⟩ : ∃ W, W = w6 := ⟨_, rfl⟩; have HOm6 := Lib.hid ho6; have HOo6 := Lib.hid (OwnL.beside subNo HOo.out hg6 hat6 (fun g hg => HUN.out g hg)); have q6 : V5.heap.size + 1 ≤ V6.heap.size := (by have := hg6.size; simpa using this); have BK7 := Lib.hid ((hg6.block _ (lt_of_heap BK6.out) (fun k => by have := HLB.out _ k.symm; omega)).trans BK6.out); have BR7 := Lib.hid ((hg6.block _ (lt_of_heap BR6.out) (fun k => by have := HLB.out _ k.symm; omega)).trans BR6.out); have HB7 := Lib.hid ((Below.refl (w.heap.size + 2) (V5.alloc (.cells [.string s5, .slice A5 m5 k5].toArray 66))).grown hg6 hB6 (fun g hg => HLB.out g hg)); have HP7 := Lib.hid ((HP5.out.under ((Below.refl _ _).alloc (Nat.le_refl _) (.cells [.string s5, .slice A5 m5 k5].toArray 66))).onB HB7.out (by omega) (by omega)); have HK7 := Lib.hid ((HK5.out.alloc (.cells [.string s5, .slice A5 m5 k5].toArray 66)).onB HB7.out (by omega)); obtain ⟨r0, r1⟩ := row2 BK7.out; have f0 := row_frozen BK7.out 0; clear ho6 hg6 hat6)
            refine hK.out _ _ True.intro (fun hHeld => ?_); clear hK K; try simp only [Act.put, setA, setZ, setS]
            refine take_now 6 rfl ?_; try simp only [Act.put, setA, setZ, setS]
            refine only_at 7 (by kernel_rfl) rfl (fun K hK => ?_); go_simp
            refine hK.out _ _ True.intro (fun hHeld => ?_); clear hK K; try simp only [Act.put, setA, setZ, setS]
            refine wpAnyH_done (by kernel_rfl) ?_ _; go_wp2_with fail
            go_roundg m
            case measure => omega
            case rel => exact ⟨m, es ++ [xb], ns, tsb, _, _, rfl, HQ5.out, by have := HLEN.out; simp; omega, (by simpa using heap_setCell_same V6 (w.heap.size + 1) 0 _ _ (.slice A9 m9 k9) BK7.out), (Below.heap_setCell _ _ _ _ (by simp)).trans BR7.out, (HOm6.out.same (hideSub subEn) ((Same.refl (w.heap.size + 2) V6).set (a := ⟨w.heap.size + 1, 0, none⟩) (.inl (Nat.lt_succ_self _)) _)), (HOo6.out.same (hideSub subNo) ((Same.refl (w.heap.size + 2) V6).set (a := ⟨w.heap.size + 1, 0, none⟩) (.inl (Nat.lt_succ_self _)) _)), HP7.out.set (by simp; omega) (by simp; omega) _, HK7.out.setNew (a := ⟨w.heap.size + 1, 0, none⟩) (by simp) _⟩
          · go_simp
            (go_at_call 42
             rcases bindP_some HQa.out with ⟨f, hf, rfl⟩ | ⟨xb, tsb, hb, hqb⟩
             · (with_reducible refine (penum_any N G o _ _ hf _ (HP2.out.under (Below.refl _ _).drew)).mono ?_); rintro e w7 ⟨rfl, hk7⟩; exact ⟨rfl, rfl, (HK2.out.trans (KeptN.of_below (Below.refl _ _).drew)).trans hk7⟩
             (with_reducible refine (penum_any N G o _ _ hb _ (HP2.out.under (Below.refl _ _).drew)).mono ?_); rintro e w7 ⟨vb, rfl, hr7, hp7, hk7⟩; obtain ⟨V5, rfl⟩ : ∃ W, W = w7 := ⟨_, rfl⟩; have HQ5 := Lib.hid hqb; have HP5 := Lib.hid hp7; have HK5 := Lib.hid ((HK2.out.trans (KeptN.of_below (Below.refl _ _).drew)).trans hk7); obtain ⟨L5, rfl, hx⟩ := hr7; have HX5 := Lib.hid (show EnumAt (newW V2.heap.size V5) L5 xb from hx); obtain ⟨s5, A5, m5, k5, rfl⟩ := hx.shape; have HS5 := Lib.hid ((show Same (w.heap.size + 2) V2 V2.drew from Same.refl _ _).trans (hk7.same (by omega))); have q5 : V2.heap.size ≤ V5.heap.size := hk7.size; have BK5 := Lib.hid (hk7.cells (show V2.drew.heap[w.heap.size + 1]? = _ from BK2.out) (by omega)); have BR5 := Lib.hid (hk7.cells (show V2.drew.heap[w.heap.size]? = _ from BR2.out) (by omega)); obtain ⟨p0, p1⟩ := row2 BK5.out; clear hx hqb hp7 hk7 hb)
            refine hK.out _ _ True.intro (fun hHeld => ?_); clear hK K; try simp only [Act.put, setA, setZ, setS]
            refine wpAnyH_ready (rs := [1, 4]) (by kernel_rfl) (by simp) (cons_at 1 rfl (fun K hK => ?_) (cons_at 4 rfl (fun K hK => ?_) AllReadyH.nil))
            · go_simp
              refine hK.out _ _ True.intro (fun hHeld => ?_); clear hK K; try simp only [Act.put, setA, setZ, setS]
              refine only_at 4 (by kernel_rfl) rfl (fun K hK => ?_); go_simp
              refine hK.out _ _ True.intro (fun hHeld => ?_); clear hK K; try simp only [Act.put, setA, setZ, setS]
              have HOm := Lib.hid ((HOe.out.same (hideSub subEn) HS5.out).same (hideSub subEn) ((Same.refl (w.heap.size + 2) V5).alloc (.cells [.string s5, .slice A5 m5 k5].toArray 66))); have HOo := Lib.hid ((HOn.out.same (hideSub subNo) HS5.out).same (hideSub subNo) ((Same.refl (w.heap.size + 2) V5).alloc (.cells [.string s5, .slice A5 m5 k5].toArray 66))); have BK6 := Lib.hid (alloc_below (o := (.cells [.string s5, .slice A5 m5 k5].toArray 66)) BK5.out); have BR6 := Lib.hid (alloc_below (o := (.cells [.string s5, .slice A5 m5 k5].toArray 66)) BR5.out); have hB6 : w.heap.size + 2 ≤ (V5.alloc (.cells [.string s5, .slice A5 m5 k5].toArray 66)).heap.size := (by have := HB2.out; simp; omega); refine only_at 5 (by kernel_rfl) rfl (fun K hK => ?_)
              (refine step_ownL1 (R := fun w L x => EnumAt (hideW (Value.slice AN mN kN).ownBlock w) L x) (B := w.heap.size + 2) (v := .slice AE mE kE) (xs := es) (L := [.string s5, .slice A5 m5 k5]) (hideSub subEn) rfl _ _ rfl Tryz.underlying23 infoEn rfl (by decide) (by decide) rfl rfl (heap_alloc_new _ _) rfl (cellEn HX5.out) HOm.out (hide_new subEn (HX5.out.sub (Same.refl V2.heap.size V5 |>.alloc (.cells [.string s5, .slice A5 m5 k5].toArray 66)).sub) (by have := HB2.out; omega) (fun g hg => (HLTm.out g hg)) (fun g hg => (HLTo.out g hg))) hlen1 hB6 ?_
               intro v6 w6 ho6 hg6 hat6; obtain ⟨A9, m9, k9, rfl, hm9⟩ := ho6.shape; clear hm9; obtain ⟨V6, rfl⟩ : ∃ W, W = w6 := ⟨_, rfl⟩; have HOm6 := Lib.hid ho6; have HOo6 := Lib.hid (OwnL.beside subNo HOo.out hg6 hat6 (fun g hg => HUN.out g hg)); have q6 : V5.heap.size + 1 ≤ V6.heap.size := (by have := hg6.size; simpa using this); have BK7 := Lib.hid ((hg6.block _ (lt_of_heap BK6.out) (fun k => by have := HLB.out _ k.symm; omega)).trans BK6.out); have BR7 := Lib.hid ((hg6.block _ (lt_of_heap BR6.out) (fun k => by have := HLB.out _ k.symm; omega)).trans BR6.out); have HB7 := Lib.hid ((Below.refl (w.heap.size + 2) (V5.alloc (.cells [.string s5, .slice A5 m5 k5].toArray 66))).grown hg6 hB6 (fun g hg => HLB.out g hg)); have HP7 := Lib.hid ((HP5.out.under ((Below.refl _ _).alloc (Nat.le_refl _) (.cells [.string s5, .slice A5 m5 k5].toArray 66))).onB HB7.out (by omega) (by omega)); have HK7 := Lib.hid ((HK5.out.alloc (.cells [.string s5, .slice A5 m5 k5].toArray 66)).onB HB7.out (by omega)); obtain ⟨r0, r1⟩ := row2 BK7.out; have f0 := row_frozen BK7.out 0; clear ho6 hg6 hat6)
              refine hK.out _ _ True.intro (fun hHeld => ?_); clear hK K; try simp only [Act.put, setA, setZ, setS]
              refine take_now 6 rfl ?_; try simp only [Act.put, setA, setZ, setS]
              refine only_at 7 (by kernel_rfl) rfl (fun K hK => ?_); go_simp
              refine hK.out _ _ True.intro (fun hHeld => ?_); clear hK K; try simp only [Act.put, setA, setZ, setS]
              refine wpAnyH_done (by kernel_rfl) ?_ _; go_wp2_with fail
              go_roundg m
              case measure => omega
              case rel => exact ⟨m, es ++ [xb], ns, tsb, _, _, rfl, HQ5.out, by have := HLEN.out; simp; omega, (by simpa using heap_setCell_same V6 (w.heap.size + 1) 0 _ _ (.slice A9 m9 k9) BK7.out), (Below.heap_setCell _ _ _ _ (by simp)).trans BR7.out, (HOm6.out.same (hideSub subEn) ((Same.refl (w.heap.size + 2) V6).set (a := ⟨w.heap.size + 1, 0, none⟩) (.inl (Nat.lt_succ_self _)) _)), (HOo6.out.same (hideSub subNo) ((Same.refl (w.heap.size + 2) V6).set (a := ⟨w.heap.size + 1, 0, none⟩) (.inl (Nat.lt_succ_self _)) _)), HP7.out.set (by simp; omega) (by simp; omega) _, HK7.out.setNew (a := ⟨w.heap.size + 1, 0, none⟩) (by simp) _⟩
            · go_simp
              refine hK.out _ _ True.intro (fun hHeld => ?_); clear hK K; try simp only [Act.put, setA, setZ, setS]
              have BKl := Lib.hid (alloc_below (o := (.cells [.string s5, .slice A5 m5 k5].toArray 66)) BK5.out); obtain ⟨p0, p1⟩ := row2 BKl.out; refine only_at 1 (by kernel_rfl) rfl (fun K hK => ?_); go_simp
              refine hK.out _ _ True.intro (fun hHeld => ?_); clear hK K; try simp only [Act.put, setA, setZ, setS]
              have HOm := Lib.hid ((HOe.out.same (hideSub subEn) HS5.out).same (hideSub subEn) ((Same.refl (w.heap.size + 2) V5).alloc (.cells [.string s5, .slice A5 m5 k5].toArray 66))); have HOo := Lib.hid ((HOn.out.same (hideSub subNo) HS5.out).same (hideSub subNo) ((Same.refl (w.heap.size + 2) V5).alloc (.cells [.string s5, .slice A5 m5 k5].toArray 66))); have BK6 := Lib.hid (alloc_below (o := (.cells [.string s5, .slice A5 m5 k5].toArray 66)) BK5.out); have BR6 := Lib.hid (alloc_below (o := (.cells [.string s5, .slice A5 m5 k5].toArray 66)) BR5.out); have hB6 : w.heap.size + 2 ≤ (V5.alloc (.cells [.string s5, .slice A5 m5 k5].toArray 66)).heap.size := (by have := HB2.out; simp; omega); refine only_at 5 (by kernel_rfl) rfl (fun K hK => ?_)
              (refine step_ownL1 (R := fun w L x => EnumAt (hideW (Value.slice AN mN kN).ownBlock w) L x) (B := w.heap.size + 2) (v := .slice AE mE kE) (xs := es) (L := [.string s5, .slice A5 m5 k5]) (hideSub subEn) rfl _ _ rfl Tryz.underlying23 infoEn rfl (by decide) (by decide) rfl rfl (heap_alloc_new _ _) rfl (cellEn HX5.out) HOm.out (hide_new subEn (HX5.out.sub (Same.refl V2.heap.size V5 |>.alloc (.cells [.string s5, .slice A5 m5 k5].toArray 66)).sub) (by have := HB2.out; omega) (fun g hg => (HLTm.out g hg)) (fun g hg => (HLTo.out g hg))) hlen1 hB6 ?_
               intro v6 w6 ho6 hg6 hat6; obtain ⟨A9, m9, k9, rfl, hm9⟩ := ho6.shape; clear hm9; obtain ⟨V6, rfl⟩ : ∃ W, W = w6 := ⟨_, rfl⟩; have HOm6 := Lib.hid ho6; have HOo6 := Lib.hid (OwnL.beside subNo HOo.out hg6 hat6 (fun g hg => HUN.out g hg)); have q6 : V5.heap.size + 1 ≤ V6.heap.size := (by have := hg6.size; simpa using this); have BK7 := Lib.hid ((hg6.block _ (lt_of_heap BK6.out) (fun k => by have := HLB.out _ k.symm; omega)).trans BK6.out); have BR7 := Lib.hid ((hg6.block _ (lt_of_heap BR6.out) (fun k => by have := HLB.out _ k.symm; omega)).trans BR6.out); have HB7 := Lib.hid ((Below.refl (w.heap.size + 2) (V5.alloc (.cells [.string s5, .slice A5 m5 k5].toArray 66))).grown hg6 hB6 (fun g hg => HLB.out g hg)); have HP7 := Lib.hid ((HP5.out.under ((Below.refl _ _).alloc (Nat.le_refl _) (.cells [.string s5, .slice A5 m5 k5].toArray 66))).onB HB7.out (by omega) (by omega)); have HK7 := Lib.hid ((HK5.out.alloc (.cells [.string s5, .slice A5 m5 k5].toArray 66)).onB HB7.out (by omega)); obtain ⟨r0, r1⟩ := row2 BK7.out; have f0 := row_frozen BK7.out 0; clear ho6 hg6 hat6)
              refine hK.out _ _ True.intro (fun hHeld => ?_); clear hK K; try simp only [Act.put, setA, setZ, setS]
              refine take_now 6 rfl ?_; try simp only [Act.put, setA, setZ, setS]
              refine only_at 7 (by kernel_rfl) rfl (fun K hK => ?_); go_simp
              refine hK.out _ _ True.intro (fun hHeld => ?_); clear hK K; try simp only [Act.put, setA, setZ, setS]
              refine wpAnyH_done (by kernel_rfl) ?_ _; go_wp2_with fail
              go_roundg m
              case measure => omega
              case rel => exact ⟨m, es ++ [xb], ns, tsb, _, _, rfl, HQ5.out, by have := HLEN.out; simp; omega, (by simpa using heap_setCell_same V6 (w.heap.size + 1) 0 _ _ (.slice A9 m9 k9) BK7.out), (Below.heap_setCell _ _ _ _ (by simp)).trans BR7.out, (HOm6.out.same (hideSub subEn) ((Same.refl (w.heap.size + 2) V6).set (a := ⟨w.heap.size + 1, 0, none⟩) (.inl (Nat.lt_succ_self _)) _)), (HOo6.out.same (hideSub subNo) ((Same.refl (w.heap.size + 2) V6).set (a := ⟨w.heap.size + 1, 0, none⟩) (.inl (Nat.lt_succ_self _)) _)), HP7.out.set (by simp; omega) (by simp; omega) _, HK7.out.setNew (a := ⟨w.heap.size + 1, 0, none⟩) (by simp) _⟩
        · by_cases ht2 : t.text = nodeW
          · have HQa := Lib.hid (show bindP (nodeP (fun ts => E ts o) (t :: r)) (fun n ts => programF (fun ts => E ts o) m es (ns ++ [n]) ts) = some q by have h2 : ¬ atP typeW (t :: r) = true := fun g => ht (of_decide_eq_true g); have h3 : atP nodeW (t :: r) = true := decide_eq_true ht2; rwa [if_neg h2, if_pos h3] at hs); have e1 : ((str t.text).toList == [116, 121, 112, 101]) = false := (by rw [str_toL]; simpa [typeW] using ht); have e2 : ((str t.text).toList == [110, 111, 100, 101]) = true := (by rw [ht2, str_toL]; rfl); clear hs ht ht2
            go_wp2_with (go_at_call 40
                         (with_reducible refine HNX.out.mono ?_); rintro e w7 ⟨rfl, hb7⟩; obtain ⟨V2, rfl⟩ : ∃ W, W = w7 := ⟨_, rfl⟩; have HP2 := Lib.hid (HPq.out.under hb7); have HK2 := Lib.hid (HKq.out.trans (KeptN.of_below hb7)); have HOe := Lib.hid (HOe0.out.same (hideSub subEn) (Same.below hb7)); have HOn := Lib.hid (HOn0.out.same (hideSub subNo) (Same.below hb7)); have BK2 := Lib.hid (box_next hb7 BKq.out); have BR2 := Lib.hid (box_next hb7 BRq.out); have q2 : Wq.heap.size ≤ V2.heap.size := hb7.size; have HB2 := Lib.hid (show w.heap.size + 2 ≤ V2.heap.size from lt_of_heap BK2.out); obtain ⟨p0, p1⟩ := row2 BK2.out; simp only [Tok.cells]; clear hb7)
            have HLTm := Lib.hid (fun g hg => Nat.lt_of_lt_of_le (HLT2 g hg).2 (show Wq.heap.size ≤ V2.heap.size from q2)); have HLTo := Lib.hid (fun g hg => Nat.lt_of_lt_of_le (HLT1 g hg).2 (show Wq.heap.size ≤ V2.heap.size from q2)); have HLB := Lib.hid (fun g hg => (HLT2 g hg).1); have HUN := Lib.hid hUNe; have hlen1 : ns.length ≤ 2097152 := hlen1.2; have q22 : w.heap.size + 2 ≤ V2.heap.size := HB2.out; refine wp_region_held_drew (S := fun _ => True) (by kernel_rfl) True.intro (fun hHeld => ?_); refine take_now 0 rfl ?_; try simp only [Act.put, setA, setZ, setS]
            refine take_now 2 rfl ?_; try simp only [Act.put, setA, setZ, setS]
            refine wpAnyH_ready (rs := [1, 3]) (by kernel_rfl) (by simp) (cons_at 1 rfl (fun K hK => ?_) (cons_at 3 rfl (fun K hK => ?_) AllReadyH.nil))
            · go_simp
              refine hK.out _ _ True.intro (fun hHeld => ?_); clear hK K; try simp only [Act.put, setA, setZ, setS]
              refine only_at 3 (by kernel_rfl) rfl (fun K hK => ?_); go_simp
              (go_at_call 43
               rcases bindP_some HQa.out with ⟨f, hf, rfl⟩ | ⟨xb, tsb, hb, hqb⟩
               · (with_reducible refine (HNO.out N G o _ _ hf _ (HP2.out.under (Below.refl _ _).drew)).mono ?_); rintro e w7 ⟨rfl, hk7⟩; exact ⟨rfl, rfl, (HK2.out.trans (KeptN.of_below (Below.refl _ _).drew)).trans hk7⟩
               (with_reducible refine (HNO.out N G o _ _ hb _ (HP2.out.under (Below.refl _ _).drew)).mono ?_); rintro e w7 ⟨vb, rfl, hr7, hp7, hk7⟩; obtain ⟨V5, rfl⟩ : ∃ W, W = w7 := ⟨_, rfl⟩; have HQ5 := Lib.hid hqb; have HP5 := Lib.hid hp7; have HK5 := Lib.hid ((HK2.out.trans (KeptN.of_below (Below.refl _ _).drew)).trans hk7); obtain ⟨L5, rfl, hx⟩ := hr7; have HX5 := Lib.hid (show NodeAt (newW V2.heap.size V5) L5 xb from hx); obtain ⟨s5, A5, m5, k5, A6, m6, k6, A7, m7, k7, A8, m8, k8, rfl⟩ := hx.shape; have HS5 := Lib.hid ((show Same (w.heap.size + 2) V2 V2.drew from Same.refl _ _).trans (hk7.same (by omega))); have q5 : V2.heap.size ≤ V5.heap.size := hk7.size; have BK5 := Lib.hid (hk7.cells (show V2.drew.heap[w.heap.size + 1]? = _ from BK2.out) (by omega)); have BR5 := Lib.hid (hk7.cells (show V2.drew.heap[w.heap.size]? = _ from BR2.out) (by omega)); obtain ⟨p0, p1⟩ := row2 BK5.out; clear hx hqb hp7 hk7 hb)
              refine hK.out _ _ True.intro (fun hHeld => ?_); clear hK K; try simp only [Act.put, setA, setZ, setS]
              refine only_at 4 (by kernel_rfl) rfl (fun K hK => ?_); go_simp
              refine hK.out _ _ True.intro (fun hHeld => ?_); clear hK K; try simp only [Act.put, setA, setZ, setS]
              have HOm := Lib.hid ((HOn.out.same (hideSub subNo) HS5.out).same (hideSub subNo) ((Same.refl (w.heap.size + 2) V5).alloc (.cells [.string s5, .slice A5 m5 k5, .slice A6 m6 k6, .slice A7 m7 k7, .slice A8 m8 k8].toArray 51))); have HOo := Lib.hid ((HOe.out.same (hideSub subEn) HS5.out).same (hideSub subEn) ((Same.refl (w.heap.size + 2) V5).alloc (.cells [.string s5, .slice A5 m5 k5, .slice A6 m6 k6, .slice A7 m7 k7, .slice A8 m8 k8].toArray 51))); have BK6 := Lib.hid (alloc_below (o := (.cells [.string s5, .slice A5 m5 k5, .slice A6 m6 k6, .slice A7 m7 k7, .slice A8 m8 k8].toArray 51)) BK5.out); have BR6 := Lib.hid (alloc_below (o := (.cells [.string s5, .slice A5 m5 k5, .slice A6 m6 k6, .slice A7 m7 k7, .slice A8 m8 k8].toArray 51)) BR5.out); have hB6 : w.heap.size + 2 ≤ (V5.alloc (.cells [.string s5, .slice A5 m5 k5, .slice A6 m6 k6, .slice A7 m7 k7, .slice A8 m8 k8].toArray 51)).heap.size := (by have := HB2.out; simp; omega); refine only_at 5 (by kernel_rfl) rfl (fun K hK => ?_)
              (refine step_ownL1 (R := fun w L x => NodeAt (hideW (Value.slice AE mE kE).ownBlock w) L x) (B := w.heap.size + 2) (v := .slice AN mN kN) (xs := ns) (L := [.string s5, .slice A5 m5 k5, .slice A6 m6 k6, .slice A7 m7 k7, .slice A8 m8 k8]) (hideSub subNo) rfl _ _ rfl Tryz.underlying24 infoNo rfl (by decide) (by decide) rfl rfl (heap_alloc_new _ _) rfl (cellNo HX5.out) HOm.out (hide_new subNo (HX5.out.sub (Same.refl V2.heap.size V5 |>.alloc (.cells [.string s5, .slice A5 m5 k5, .slice A6 m6 k6, .slice A7 m7 k7, .slice A8 m8 k8].toArray 51)).sub) (by have := HB2.out; omega) (fun g hg => (HLTm.out g hg)) (fun g hg => (HLTo.out g hg))) hlen1 hB6 ?_
               intro v6 w6 ho6 hg6 hat6; obtain ⟨A9, m9, k9, rfl, hm9⟩ := ho6.shape; clear hm9; obtain ⟨V6, rfl⟩ : ∃ W, W = w6 := ⟨_, rfl⟩; have HOm6 := Lib.hid ho6; have HOo6 := Lib.hid (OwnL.beside subEn HOo.out hg6 hat6 (fun g hg => HUN.out g hg)); have q6 : V5.heap.size + 1 ≤ V6.heap.size := (by have := hg6.size; simpa using this); have BK7 := Lib.hid ((hg6.block _ (lt_of_heap BK6.out) (fun k => by have := HLB.out _ k.symm; omega)).trans BK6.out); have BR7 := Lib.hid ((hg6.block _ (lt_of_heap BR6.out) (fun k => by have := HLB.out _ k.symm; omega)).trans BR6.out); have HB7 := Lib.hid ((Below.refl (w.heap.size + 2) (V5.alloc (.cells [.string s5, .slice A5 m5 k5, .slice A6 m6 k6, .slice A7 m7 k7, .slice A8 m8 k8].toArray 51))).grown hg6 hB6 (fun g hg => HLB.out g hg)); have HP7 := Lib.hid ((HP5.out.under ((Below.refl _ _).alloc (Nat.le_refl _) (.cells [.string s5, .slice A5 m5 k5, .slice A6 m6 k6, .slice A7 m7 k7, .slice A8 m8 k8].toArray 51))).onB HB7.out (by omega) (by omega)); have HK7 := Lib.hid ((HK5.out.alloc (.cells [.string s5, .slice A5 m5 k5, .slice A6 m6 k6, .slice A7 m7 k7, .slice A8 m8 k8].toArray 51)).onB HB7.out (by omega)); obtain ⟨r0, r1⟩ := row2 BK7.out; have f0 := row_frozen BK7.out 1; clear ho6 hg6 hat6)
              refine hK.out _ _ True.intro (fun hHeld => ?_); clear hK K; try simp only [Act.put, setA, setZ, setS]
              refine take_now 6 rfl ?_; try simp only [Act.put, setA, setZ, setS]
              refine only_at 7 (by kernel_rfl) rfl (fun K hK => ?_); go_simp
              refine hK.out _ _ True.intro (fun hHeld => ?_); clear hK K; try simp only [Act.put, setA, setZ, setS]
              refine wpAnyH_done (by kernel_rfl) ?_ _; go_wp2_with fail
              go_roundg m
              case measure => omega
              case rel => exact ⟨m, es, ns ++ [xb], tsb, _, _, rfl, HQ5.out, by have := HLEN.out; simp; omega, (by simpa using heap_setCell_same V6 (w.heap.size + 1) 1 _ _ (.slice A9 m9 k9) BK7.out), (Below.heap_setCell _ _ _ _ (by simp)).trans BR7.out, (HOo6.out.same (hideSub subEn) ((Same.refl (w.heap.size + 2) V6).set (a := ⟨w.heap.size + 1, 1, none⟩) (.inl (Nat.lt_succ_self _)) _)), (HOm6.out.same (hideSub subNo) ((Same.refl (w.heap.size + 2) V6).set (a := ⟨w.heap.size + 1, 1, none⟩) (.inl (Nat.lt_succ_self _)) _)), HP7.out.set (by simp; omega) (by simp; omega) _, HK7.out.setNew (a := ⟨w.heap.size + 1, 1, none⟩) (by simp) _⟩
            · go_simp
              (go_at_call 43
               rcases bindP_some HQa.out with ⟨f, hf, rfl⟩ | ⟨xb, tsb, hb, hqb⟩
               · (with_reducible refine (HNO.out N G o _ _ hf _ (HP2.out.under (Below.refl _ _).drew)).mono ?_); rintro e w7 ⟨rfl, hk7⟩; exact ⟨rfl, rfl, (HK2.out.trans (KeptN.of_below (Below.refl _ _).drew)).trans hk7⟩
               (with_reducible refine (HNO.out N G o _ _ hb _ (HP2.out.under (Below.refl _ _).drew)).mono ?_); rintro e w7 ⟨vb, rfl, hr7, hp7, hk7⟩; obtain ⟨V5, rfl⟩ : ∃ W, W = w7 := ⟨_, rfl⟩; have HQ5 := Lib.hid hqb; have HP5 := Lib.hid hp7; have HK5 := Lib.hid ((HK2.out.trans (KeptN.of_below (Below.refl _ _).drew)).trans hk7); obtain ⟨L5, rfl, hx⟩ := hr7; have HX5 := Lib.hid (show NodeAt (newW V2.heap.size V5) L5 xb from hx); obtain ⟨s5, A5, m5, k5, A6, m6, k6, A7, m7, k7, A8, m8, k8, rfl⟩ := hx.shape; have HS5 := Lib.hid ((show Same (w.heap.size + 2) V2 V2.drew from Same.refl _ _).trans (hk7.same (by omega))); have q5 : V2.heap.size ≤ V5.heap.size := hk7.size; have BK5 := Lib.hid (hk7.cells (show V2.drew.heap[w.heap.size + 1]? = _ from BK2.out) (by omega)); have BR5 := Lib.hid (hk7.cells (show V2.drew.heap[w.heap.size]? = _ from BR2.out) (by omega)); obtain ⟨p0, p1⟩ := row2 BK5.out; clear hx hqb hp7 hk7 hb)
              refine hK.out _ _ True.intro (fun hHeld => ?_); clear hK K; try simp only [Act.put, setA, setZ, setS]
              refine wpAnyH_ready (rs := [1, 4]) (by kernel_rfl) (by simp) (cons_at 1 rfl (fun K hK => ?_) (cons_at 4 rfl (fun K hK => ?_) AllReadyH.nil))
              · go_simp
                refine hK.out _ _ True.intro (fun hHeld => ?_); clear hK K; try simp only [Act.put, setA, setZ, setS]
                refine only_at 4 (by kernel_rfl) rfl (fun K hK => ?_); go_simp
                refine hK.out _ _ True.intro (fun hHeld => ?_); clear hK K; try simp only [Act.put, setA, setZ, setS]
                have HOm := Lib.hid ((HOn.out.same (hideSub subNo) HS5.out).same (hideSub subNo) ((Same.refl (w.heap.size + 2) V5).alloc (.cells [.string s5, .slice A5 m5 k5, .slice A6 m6 k6, .slice A7 m7 k7, .slice A8 m8 k8].toArray 51))); have HOo := Lib.hid ((HOe.out.same (hideSub subEn) HS5.out).same (hideSub subEn) ((Same.refl (w.heap.size + 2) V5).alloc (.cells [.string s5, .slice A5 m5 k5, .slice A6 m6 k6, .slice A7 m7 k7, .slice A8 m8 k8].toArray 51))); have BK6 := Lib.hid (alloc_below (o := (.cells [.string s5, .slice A5 m5 k5, .slice A6 m6 k6, .slice A7 m7 k7, .slice A8 m8 k8].toArray 51)) BK5.out); have BR6 := Lib.hid (alloc_below (o := (.cells [.string s5, .slice A5 m5 k5, .slice A6 m6 k6, .slice A7 m7 k7, .slice A8 m8 k8].toArray 51)) BR5.out); have hB6 : w.heap.size + 2 ≤ (V5.alloc (.cells [.string s5, .slice A5 m5 k5, .slice A6 m6 k6, .slice A7 m7 k7, .slice A8 m8 k8].toArray 51)).heap.size := (by have := HB2.out; simp; omega); refine only_at 5 (by kernel_rfl) rfl (fun K hK => ?_)
                (refine step_ownL1 (R := fun w L x => NodeAt (hideW (Value.slice AE mE kE).ownBlock w) L x) (B := w.heap.size + 2) (v := .slice AN mN kN) (xs := ns) (L := [.string s5, .slice A5 m5 k5, .slice A6 m6 k6, .slice A7 m7 k7, .slice A8 m8 k8]) (hideSub subNo) rfl _ _ rfl Tryz.underlying24 infoNo rfl (by decide) (by decide) rfl rfl (heap_alloc_new _ _) rfl (cellNo HX5.out) HOm.out (hide_new subNo (HX5.out.sub (Same.refl V2.heap.size V5 |>.alloc (.cells [.string s5, .slice A5 m5 k5, .slice A6 m6 k6, .slice A7 m7 k7, .slice A8 m8 k8].toArray 51)).sub) (by have := HB2.out; omega) (fun g hg => (HLTm.out g hg)) (fun g hg => (HLTo.out g hg))) hlen1 hB6 ?_
                 intro v6 w6 ho6 hg6 hat6; obtain ⟨A9, m9, k9, rfl, hm9⟩ := ho6.shape; clear hm9; obtain ⟨V6, rfl⟩ : ∃ W, W = w6 := ⟨_, rfl⟩; have HOm6 := Lib.hid ho6; have HOo6 := Lib.hid (OwnL.beside subEn HOo.out hg6 hat6 (fun g hg => HUN.out g hg)); have q6 : V5.heap.size + 1 ≤ V6.heap.size := (by have := hg6.size; simpa using this); have BK7 := Lib.hid ((hg6.block _ (lt_of_heap BK6.out) (fun k => by have := HLB.out _ k.symm; omega)).trans BK6.out); have BR7 := Lib.hid ((hg6.block _ (lt_of_heap BR6.out) (fun k => by have := HLB.out _ k.symm; omega)).trans BR6.out); have HB7 := Lib.hid ((Below.refl (w.heap.size + 2) (V5.alloc (.cells [.string s5, .slice A5 m5 k5, .slice A6 m6 k6, .slice A7 m7 k7, .slice A8 m8 k8].toArray 51))).grown hg6 hB6 (fun g hg => HLB.out g hg)); have HP7 := Lib.hid ((HP5.out.under ((Below.refl _ _).alloc (Nat.le_refl _) (.cells [.string s5, .slice A5 m5 k5, .slice A6 m6 k6, .slice A7 m7 k7, .slice A8 m8 k8].toArray 51))).onB HB7.out (by omega) (by omega)); have HK7 := Lib.hid ((HK5.out.alloc (.cells [.string s5, .slice A5 m5 k5, .slice A6 m6 k6, .slice A7 m7 k7, .slice A8 m8 k8].toArray 51)).onB HB7.out (by omega)); obtain ⟨r0, r1⟩ := row2 BK7.out; have f0 := row_frozen BK7.out 1; clear ho6 hg6 hat6)
                refine hK.out _ _ True.intro (fun hHeld => ?_); clear hK K; try simp only [Act.put, setA, setZ, setS]
                refine take_now 6 rfl ?_; try simp only [Act.put, setA, setZ, setS]
                refine only_at 7 (by kernel_rfl) rfl (fun K hK => ?_); go_simp
                refine hK.out _ _ True.intro (fun hHeld => ?_); clear hK K; try simp only [Act.put, setA, setZ, setS]
                refine wpAnyH_done (by kernel_rfl) ?_ _; go_wp2_with fail
                go_roundg m
                case measure => omega
                case rel => exact ⟨m, es, ns ++ [xb], tsb, _, _, rfl, HQ5.out, by have := HLEN.out; simp; omega, (by simpa using heap_setCell_same V6 (w.heap.size + 1) 1 _ _ (.slice A9 m9 k9) BK7.out), (Below.heap_setCell _ _ _ _ (by simp)).trans BR7.out, (HOo6.out.same (hideSub subEn) ((Same.refl (w.heap.size + 2) V6).set (a := ⟨w.heap.size + 1, 1, none⟩) (.inl (Nat.lt_succ_self _)) _)), (HOm6.out.same (hideSub subNo) ((Same.refl (w.heap.size + 2) V6).set (a := ⟨w.heap.size + 1, 1, none⟩) (.inl (Nat.lt_succ_self _)) _)), HP7.out.set (by simp; omega) (by simp; omega) _, HK7.out.setNew (a := ⟨w.heap.size + 1, 1, none⟩) (by simp) _⟩
              · go_simp
                refine hK.out _ _ True.intro (fun hHeld => ?_); clear hK K; try simp only [Act.put, setA, setZ, setS]
                have BKl := Lib.hid (alloc_below (o := (.cells [.string s5, .slice A5 m5 k5, .slice A6 m6 k6, .slice A7 m7 k7, .slice A8 m8 k8].toArray 51)) BK5.out); obtain ⟨p0, p1⟩ := row2 BKl.out; refine only_at 1 (by kernel_rfl) rfl (fun K hK => ?_); go_simp
                refine hK.out _ _ True.intro (fun hHeld => ?_); clear hK K; try simp only [Act.put, setA, setZ, setS]
                have HOm := Lib.hid ((HOn.out.same (hideSub subNo) HS5.out).same (hideSub subNo) ((Same.refl (w.heap.size + 2) V5).alloc (.cells [.string s5, .slice A5 m5 k5, .slice A6 m6 k6, .slice A7 m7 k7, .slice A8 m8 k8].toArray 51))); have HOo := Lib.hid ((HOe.out.same (hideSub subEn) HS5.out).same (hideSub subEn) ((Same.refl (w.heap.size + 2) V5).alloc (.cells [.string s5, .slice A5 m5 k5, .slice A6 m6 k6, .slice A7 m7 k7, .slice A8 m8 k8].toArray 51))); have BK6 := Lib.hid (alloc_below (o := (.cells [.string s5, .slice A5 m5 k5, .slice A6 m6 k6, .slice A7 m7 k7, .slice A8 m8 k8].toArray 51)) BK5.out); have BR6 := Lib.hid (alloc_below (o := (.cells [.string s5, .slice A5 m5 k5, .slice A6 m6 k6, .slice A7 m7 k7, .slice A8 m8 k8].toArray 51)) BR5.out); have hB6 : w.heap.size + 2 ≤ (V5.alloc (.cells [.string s5, .slice A5 m5 k5, .slice A6 m6 k6, .slice A7 m7 k7, .slice A8 m8 k8].toArray 51)).heap.size := (by have := HB2.out; simp; omega); refine only_at 5 (by kernel_rfl) rfl (fun K hK => ?_)
                (refine step_ownL1 (R := fun w L x => NodeAt (hideW (Value.slice AE mE kE).ownBlock w) L x) (B := w.heap.size + 2) (v := .slice AN mN kN) (xs := ns) (L := [.string s5, .slice A5 m5 k5, .slice A6 m6 k6, .slice A7 m7 k7, .slice A8 m8 k8]) (hideSub subNo) rfl _ _ rfl Tryz.underlying24 infoNo rfl (by decide) (by decide) rfl rfl (heap_alloc_new _ _) rfl (cellNo HX5.out) HOm.out (hide_new subNo (HX5.out.sub (Same.refl V2.heap.size V5 |>.alloc (.cells [.string s5, .slice A5 m5 k5, .slice A6 m6 k6, .slice A7 m7 k7, .slice A8 m8 k8].toArray 51)).sub) (by have := HB2.out; omega) (fun g hg => (HLTm.out g hg)) (fun g hg => (HLTo.out g hg))) hlen1 hB6 ?_
                 intro v6 w6 ho6 hg6 hat6; obtain ⟨A9, m9, k9, rfl, hm9⟩ := ho6.shape; clear hm9; obtain ⟨V6, rfl⟩ : ∃ W, W = w6 := ⟨_, rfl⟩; have HOm6 := Lib.hid ho6; have HOo6 := Lib.hid (OwnL.beside subEn HOo.out hg6 hat6 (fun g hg => HUN.out g hg)); have q6 : V5.heap.size + 1 ≤ V6.heap.size := (by have := hg6.size; simpa using this); have BK7 := Lib.hid ((hg6.block _ (lt_of_heap BK6.out) (fun k => by have := HLB.out _ k.symm; omega)).trans BK6.out); have BR7 := Lib.hid ((hg6.block _ (lt_of_heap BR6.out) (fun k => by have := HLB.out _ k.symm; omega)).trans BR6.out); have HB7 := Lib.hid ((Below.refl (w.heap.size + 2) (V5.alloc (.cells [.string s5, .slice A5 m5 k5, .slice A6 m6 k6, .slice A7 m7 k7, .slice A8 m8 k8].toArray 51))).grown hg6 hB6 (fun g hg => HLB.out g hg)); have HP7 := Lib.hid ((HP5.out.under ((Below.refl _ _).alloc (Nat.le_refl _) (.cells [.string s5, .slice A5 m5 k5, .slice A6 m6 k6, .slice A7 m7 k7, .slice A8 m8 k8].toArray 51))).onB HB7.out (by omega) (by omega)); have HK7 := Lib.hid ((HK5.out.alloc (.cells [.string s5, .slice A5 m5 k5, .slice A6 m6 k6, .slice A7 m7 k7, .slice A8 m8 k8].toArray 51)).onB HB7.out (by omega)); obtain ⟨r0, r1⟩ := row2 BK7.out; have f0 := row_frozen BK7.out 1; clear ho6 hg6 hat6)
                refine hK.out _ _ True.intro (fun hHeld => ?_); clear hK K; try simp only [Act.put, setA, setZ, setS]
                refine take_now 6 rfl ?_; try simp only [Act.put, setA, setZ, setS]
                refine only_at 7 (by kernel_rfl) rfl (fun K hK => ?_); go_simp
                refine hK.out _ _ True.intro (fun hHeld => ?_); clear hK K; try simp only [Act.put, setA, setZ, setS]
                refine wpAnyH_done (by kernel_rfl) ?_ _; go_wp2_with fail
                go_roundg m
                case measure => omega
                case rel => exact ⟨m, es, ns ++ [xb], tsb, _, _, rfl, HQ5.out, by have := HLEN.out; simp; omega, (by simpa using heap_setCell_same V6 (w.heap.size + 1) 1 _ _ (.slice A9 m9 k9) BK7.out), (Below.heap_setCell _ _ _ _ (by simp)).trans BR7.out, (HOo6.out.same (hideSub subEn) ((Same.refl (w.heap.size + 2) V6).set (a := ⟨w.heap.size + 1, 1, none⟩) (.inl (Nat.lt_succ_self _)) _)), (HOm6.out.same (hideSub subNo) ((Same.refl (w.heap.size + 2) V6).set (a := ⟨w.heap.size + 1, 1, none⟩) (.inl (Nat.lt_succ_self _)) _)), HP7.out.set (by simp; omega) (by simp; omega) _, HK7.out.setNew (a := ⟨w.heap.size + 1, 1, none⟩) (by simp) _⟩
          · have e1 : ((str t.text).toList == [116, 121, 112, 101]) = false := by rw [str_toL]; simpa [typeW] using ht
            have e2 : ((str t.text).toList == [110, 111, 100, 101]) = false := (by rw [str_toL]; simpa [nodeW] using ht2); rw [if_neg (show ¬ atP typeW (t :: r) = true from fun g => ht (of_decide_eq_true g)), if_neg (show ¬ atP nodeW (t :: r) = true from fun g => ht2 (of_decide_eq_true g))] at hs; cases hs; clear ht ht2
            go_wp2_with (go_at_call 40
                         (with_reducible refine HNX.out.mono ?_); rintro e w7 ⟨rfl, hb7⟩; obtain ⟨V2, rfl⟩ : ∃ W, W = w7 := ⟨_, rfl⟩; have HP2 := Lib.hid (HPq.out.under hb7); have HK2 := Lib.hid (HKq.out.trans (KeptN.of_below hb7)); have HOe := Lib.hid (HOe0.out.same (hideSub subEn) (Same.below hb7)); have HOn := Lib.hid (HOn0.out.same (hideSub subNo) (Same.below hb7)); have BK2 := Lib.hid (box_next hb7 BKq.out); have BR2 := Lib.hid (box_next hb7 BRq.out); have q2 : Wq.heap.size ≤ V2.heap.size := hb7.size; have HB2 := Lib.hid (show w.heap.size + 2 ≤ V2.heap.size from lt_of_heap BK2.out); obtain ⟨p0, p1⟩ := row2 BK2.out; obtain ⟨r0, r1⟩ := row2 BR2.out; have fr0 := row_frozen BR2.out 0; have fr1 := row_frozen BR2.out 1; simp only [Tok.cells]; clear hb7)
            have HS := (((Same.refl (w.heap.size + 2) V2).set (a := ⟨w.heap.size, 0, none⟩) (.inl (by simp)) (.slice AE mE kE)).set (a := ⟨w.heap.size, 1, none⟩) (.inl (by simp)) (.slice AN mN kN)); have HE9 := OwnL.bare subEn (HOe.out.same (hideSub subEn) HS); have HN9 := OwnL.bare subNo (HOn.out.same (hideSub subNo) HS); have hN2 : N ≠ w.heap.size := (by omega); have hG2 : G ≠ w.heap.size := (by omega); exact bodyPost_ret (program_results rfl (set_row2 _ _ BR2.out)) rfl ⟨_, rfl, ⟨_, rfl, _, _, rfl, SliceAt.sub HE9 (new_mono (by omega) _) (fun _ _ h => h.sub (new_mono (by omega) _)), SliceAt.sub HN9 (new_mono (by omega) _) (fun _ _ h => h.sub (new_mono (by omega) _))⟩, (HP2.out.set hN2.symm hG2.symm _).set hN2.symm hG2.symm _, (HK2.out.setNew (a := ⟨w.heap.size, 0, none⟩) (Nat.le_refl _) _).setNew (a := ⟨w.heap.size, 1, none⟩) (Nat.le_refl _) _⟩
end Go.Proofs.YtlhmdjhfmhkllaaGreatDoor
