/-
  Texts joined.
-/
import Derived.Test.YtlhmdjhfmhkllaaGreatDoorKb24
import Derived.Test.YtlhmdjhfmhkllaaGreatDoorKb25
import Derived.Test.YtlhmdjhfmhkllaaGreatDoorKb29
namespace Go.Proofs.YtlhmdjhfmhkllaaGreatDoor
open Go.RowKit
section
variable {X : Type} {R : World → List Value → X → Prop} {B : Nat} {T TS : TypeId} {n bytes : Nat} {z : Value} (hsub : ∀ w w' L x, Sub w w' → R w L x → R w' L x)
set_option maxRecDepth 100000 in
set_option maxHeartbeats 1000000 in
include hsub in
/-- one element more -/
theorem append_ownL2 {ops : Array Oper} {rest : List Oper} {o : Oper} {a : Act} {Q : Exit → Act → World → Prop} {W : World} {v : Value} {xs : List X} {x : X} {L : List Value} {K : Nat} (hgd : o.guard = none) (s y : Operand)
    (hop : o.op = .call { callee := .builtin .append, args := #[s, y], argTypes := #[TS, TS] }) (hT : Tryz.prog.underlying TS = some (.slice T)) (hI : (Tryz.prog.info? T).map (fun i => (i.zero, i.size, i.bytes)) = some (some z, n, bytes))
    (hz : z.cells.size = n) (hn : 0 < n) (hby : bytes ≤ 4096) (hs : a.eval s = v) (hy : a.eval y = .slice (some ⟨K, 0, none⟩) 1 1) (hK : W.heap[K]? = some (.cells L.toArray T (0, 0))) (hL : L.length = n) (hone : ∀ u ∈ L, u.oneCell' = true)
    (hO : OwnL R B T n W v xs) (hR : R (offW B v.ownBlock W) L x) (hl : xs.length ≤ 2097152) (hB : B ≤ W.heap.size)
    (h : ∀ v' w', OwnL R B T n w' v' (xs ++ [x]) → W.grownBy w' v.ownBlock → wpList Tryz.prog ops Q rest (a.put o.dst v') w') : wpList Tryz.prog ops Q (o :: rest) a W := by
  obtain ⟨i0, hi, hz0, hz1, hz2⟩ := info_parts hI; obtain ⟨Ls, hown, hll, hln, hlr⟩ := hO; have hb2 : (xs.length + 1) * bytes ≤ 140737488355328 := by
    have : (xs.length + 1) * bytes ≤ 4194304 * 4096 := Nat.mul_le_mul (by omega) hby
    omega
  refine wpList_append_own_at W hgd s y TS hop B T i0 z n bytes hT hi hz0 hz1 hz2 hz hn v xs.length _ hs hown ⟨K, 0, none⟩ 1 1 L hy (by simp [hL]) (fun j u hj => ?_) hone (by unfold maxLen; omega) hb2 hB fun v' w' h1 h2 _ h5 => h v' w' ⟨Ls ++ [L], by simpa using h1, by simp [hll], ?_, ?_⟩ h2
  · have hadd : (⟨K, 0, none⟩ : Addr).add j = ⟨K, j, none⟩ := by unfold Addr.add; split <;> simp_all
    rw [hadd, cell_of_row _ _ _ _ _ _ hK]; simpa using hj
  · intro M hM; rcases List.mem_append.1 hM with hM | hM
    · exact hln M hM
    · simp at hM; subst hM; exact hL
  · have key : Sub (offW B v.ownBlock W) (offW B v'.ownBlock w') := fun ad u hu => by
      obtain ⟨g1, g2, g3⟩ := off_cell hu; have g4 := World.block_lt_of_cell? W _ g3; have g5 : v'.ownBlock ≠ some ad.block := by
        rcases h5 with e | e
        · rw [e]; exact g2
        · rw [e]; intro e2; injection e2 with e2; omega
      rw [off_mk g1 g5, World.cell?_of_block (h2.block _ g4 (fun e => g2 e.symm))]; exact g3
    intro i M y hM hy; by_cases hi : i < Ls.length
    · rw [List.getElem?_append_left hi] at hM; rw [List.getElem?_append_left (by omega)] at hy; exact hsub _ _ _ _ key (hlr i M y hM hy)
    · rw [List.getElem?_append_right (by omega)] at hM; rw [List.getElem?_append_right (by omega)] at hy; have e1 : i - Ls.length = 0 := by
        by_cases h0 : i - Ls.length = 0
        · exact h0
        · rw [List.getElem?_eq_none (by simp; omega)] at hM; cases hM
      have e2 : i - xs.length = 0 := (by omega); rw [e1] at hM; rw [e2] at hy; simp at hM hy; subst hM hy; exact hsub _ _ _ _ key hR
end
theorem OwnL.row {X : Type} {R : World → List Value → X → Prop} {B : Nat} {T : TypeId} {n : Nat} {w : World} {v : Value} {xs : List X} (h : OwnL R B T n w v xs) {g : Nat} (hg : v.ownBlock = some g) : B ≤ g ∧ ∃ cur, w.heap[g]? = some (.cells cur T (0, 0)) := by
  obtain ⟨Ls, h1, _⟩ := h; rcases h1.2 with ⟨rfl, _⟩ | ⟨g', cap, cur, rfl, hb, hh, _⟩
  · cases hg
  · cases hg; exact ⟨hb, _, hh⟩
/-- where what is said of an element speaks of no world: through an append to another row -/
theorem OwnL.other {X : Type} {P : List Value → X → Prop} {B : Nat} {T : TypeId} {n : Nat} {w w' : World} {v : Value} {xs : List X} {ob : Option Nat} (h : OwnL (fun _ L x => P L x) B T n w v xs) (hg : w.grownBy w' ob) (hne : ∀ g, v.ownBlock = some g → ob ≠ some g) : OwnL (fun _ L x => P L x) B T n w' v xs := by
  obtain ⟨Ls, h1, h2, h3, h4⟩ := h; refine ⟨Ls, ⟨h1.1, ?_⟩, h2, h3, h4⟩; rcases h1.2 with h5 | ⟨g, cap, cur, rfl, hb, hh, hr⟩
  · exact .inl h5
  · exact .inr ⟨g, cap, cur, rfl, hb, (hg.block g (lt_of_heap hh) (fun e => hne g rfl e.symm)).trans hh, hr⟩
theorem OwnL.unlike {X Y : Type} {R : World → List Value → X → Prop} {Q : World → List Value → Y → Prop} {B C : Nat} {T U : TypeId} {n m : Nat} {w : World} {v u : Value} {xs : List X} {ys : List Y} (h : OwnL R B T n w v xs) (k : OwnL Q C U m w u ys) (hTU : T ≠ U) : ∀ g, v.ownBlock = some g → u.ownBlock ≠ some g := by
  intro g hg e; obtain ⟨_, c1, h1⟩ := h.row hg; obtain ⟨_, c2, h2⟩ := k.row e; rw [h1] at h2; injection h2 with h2; injection h2 with _ h2 _; exact hTU h2
theorem ElemAt.keptN {M : Nat} {w w' : World} {A : Option Addr} {k : Nat} {L : List Value} (h : KeptN M w w') (he : ElemAt w A k L) (hne : ∀ a, A = some a → a.block ≠ M) : ElemAt w' A k L := by
  obtain ⟨a, rfl, hL⟩ := he; refine ⟨a, rfl, fun j u hu => ?_⟩; have h1 := hL j u hu; rw [h.cell (World.block_lt_of_cell? _ _ h1) (by rw [add_block, add_block]; exact hne a rfl)]; exact h1
theorem KeptN.grown {M : Nat} {a b c : World} {ob : Option Nat} (h : KeptN M a b) (g : b.grownBy c ob) (hb : ∀ i, ob = some i → a.heap.size ≤ i) : KeptN M a c :=
  ⟨g.os.trans h.os, g.tape.trans h.tape, g.output.trans h.output, Nat.le_trans h.size g.size, fun k hk hm => (g.block k (Nat.lt_of_lt_of_le hk h.size) (fun e => by have := hb k e.symm; omega)).trans (h.block k hk hm)⟩
theorem sep_len {X : Type} {s : Tx} {E : List Tok → Pr X} : ∀ (g : Nat) (acc : List X) (ts : List Tok) (l : List X) (ts' : List Tok), sepP s E g acc ts = some (.ok l ts') → l.length ≤ acc.length + g := by
  intro g; induction g with
  | zero => intro acc ts l ts' h; rw [sepP] at h; cases h
  | succ g ih =>
    intro acc ts l ts' h; cases ts with
    | nil => rw [sepP] at h; cases h
    | cons t r =>
      rw [sepP] at h; split at h
      · split at h
        · cases h
        · rcases bindP_some h with ⟨f, _, e⟩ | ⟨x, ts2, _, h2⟩
          · cases e
          · have := ih _ _ _ _ h2; simp at this; omega
      · injection h with h; injection h with h _; subst h; omega
theorem arms_len {E : PrX} {o : Nat} {ts ts' : List Tok} {l : List (Tx × Ex)} (h : enclosedP openT (separatedP barT (armP E o)) shutT ts = some (.ok l ts')) : l.length ≤ ts.length + 2 := by
  rcases bindP_some h with ⟨f, _, e⟩ | ⟨_, ts1, h1, h2⟩
  · cases e
  have hl : ts1.length ≤ ts.length := by
    cases ts with
    | nil => cases h1
    | cons t r =>
      replace h1 : (if t.text = openT then (if r = [] then none else some (.ok () r)) else some (.bad (faultT 3 t)) : Pr Unit) = some (.ok () ts1) := h1; split at h1
      · split at h1
        · cases h1
        · cases h1; simp
      · cases h1
  rcases bindP_some h2 with ⟨f, _, e⟩ | ⟨x, ts2, h3, h4⟩
  · cases e
  rcases bindP_some h4 with ⟨f, _, e⟩ | ⟨_, ts3, _, h5⟩
  · cases e
  cases h5; rcases bindP_some h3 with ⟨f, _, e⟩ | ⟨y, ts4, _, h6⟩
  · cases e
  have := sep_len _ _ _ _ _ h6; simp at this; omega
theorem KeptN.thenM {N M : Nat} {a b c : World} (h : KeptN N a b) (k : KeptN M b c) (hM : a.heap.size ≤ M) : KeptN N a c :=
  ⟨k.os.trans h.os, k.tape.trans h.tape, k.output.trans h.output, Nat.le_trans h.size k.size, fun i hi hn => (k.block i (Nat.lt_of_lt_of_le hi h.size) (by omega)).trans (h.block i hi hn)⟩
theorem noSub {X : Type} {P : List Value → X → Prop} : ∀ (w w' : World) (L : List Value) (x : X), Sub w w' → P L x → P L x := fun _ _ _ _ _ h => h
theorem PState.keptM {M N G o : Nat} {w w' : World} {ts : List Tok} (h : PState w N G ts o) (hk : KeptN M w w') (hN : N ≠ M) (hG : G ≠ M) : PState w' N G ts o := h.same hk.size (hk.block N h.lt hN) (hk.block G h.2.2.1 hG)
set_option maxRecDepth 100000 in
theorem choices_results {tmps : Array Value} {w : World} {N : Nat} {x0 x1 x2 x3 x4 : Value} (hp : tmps.getD 4 undef = .pointer (some ⟨N, 0, none⟩)) (hg : w.heap[N]? = some (.cells #[x0, x1, x2, x3, x4] 37 (0, 0))) :
    (results Tryz.f206 tmps).run Tryz.prog w = .ok (.agg #[x0, x1, x2, x3, x4]) w :=
  results_cell_row Tryz.results206 tmps w N 37 _ (0, 0) _ hp hg Tryz.underlying37 rfl tokres_infoE
set_option maxRecDepth 100000 in
set_option maxHeartbeats 4000000 in
theorem choices_any {E : PrX} (HE : PartOk 31 REx (fun o ts => E ts o)) (k : Int) (hk : i64B k) (N G o : Nat) (ts : List Tok) (q : Out Ex) (hq : choicesP E k o ts = some q) (w : World) (h : PState w N G ts o) : Calls Tryz.prog 206 #[.pointer (some ⟨N, 0, none⟩), .int .i64 k] w (PPost REx N G o q w) := by
  have HQ0 := Lib.hid (show bindP (nameP ts) (fun n ts => bindP (enclosedP openT (separatedP barT (armP E o)) shutT ts) fun l ts => some (.ok (.mk k n 0 (l.map Prod.fst) (l.map Prod.snd)) ts)) = some q from hq); have HP0 := Lib.hid h; have HK0 := Lib.hid (KeptN.refl N w); have HJ0 := Lib.hid (KeptN.refl N (w.alloc (.cells #[.int .i64 0, .string ⟨#[]⟩, .int .i64 0, .slice none 0 0, .slice none 0 0] 37))); have HEE := Lib.hid HE; have hmf := make_fn; have hN := h.lt; have hG := h.2.2.1; clear h hq HE; go_enter Tryz.func206, Tryz.ntmps206
  go_wp2_with (first
    | (go_at_call 83; rcases bindP_some HQ0.out with ⟨f, hf, rfl⟩ | ⟨x1, ts1, h1, hq1⟩
       · (with_reducible refine (name_any N G o _ _ hf _ (HP0.out.under (((Below.refl _ _).alloc (by simp) _)))).mono ?_); rintro e w7 ⟨rfl, hk7⟩; exact ⟨rfl, rfl, (HK0.out.alloc _).trans hk7⟩
       (with_reducible refine (name_any N G o _ _ h1 _ (HP0.out.under (((Below.refl _ _).alloc (by simp) _)))).mono ?_); rintro e w7 ⟨v1, rfl, hr7, hp7, hk7⟩; obtain ⟨V1, rfl⟩ : ∃ W, W = w7 := ⟨_, rfl⟩; have HQ1 := Lib.hid hq1; have HP1 := Lib.hid hp7; have HK1 := Lib.hid ((HK0.out.alloc _).trans hk7); have HJ1 := Lib.hid (HJ0.out.trans hk7); obtain ⟨rfl, hxl⟩ := hr7; have HX1 := Lib.hid hxl; clear hxl; clear hq1 hp7 hk7 h1)
    | (go_at_call 224; rcases bindP_some HQ1.out with ⟨f, hf, rfl⟩ | ⟨x2, ts2, h2, hq2⟩
       · (with_reducible refine (enc_arms HEE.out N G o _ _ hf _ (HP1.out.under (((Below.refl _ _).alloc (by simp) _)))).mono ?_); rintro e w7 ⟨rfl, hk7⟩; exact ⟨rfl, rfl, (HK1.out.alloc _).trans hk7⟩
       (with_reducible refine (enc_arms HEE.out N G o _ _ h2 _ (HP1.out.under (((Below.refl _ _).alloc (by simp) _)))).mono ?_); rintro e w7 ⟨v2, rfl, hr7, hp7, hk7⟩; obtain ⟨V2, rfl⟩ : ∃ W, W = w7 := ⟨_, rfl⟩; have HQ2 := Lib.hid hq2; have HP2 := Lib.hid hp7; have HK2 := Lib.hid ((HK1.out.alloc _).trans hk7); have HJ2 := Lib.hid ((HJ1.out.alloc _).trans hk7); obtain ⟨A2, c2, rfl, hc2, hm2, hz2⟩ := hr7; have HZ2 := Lib.hid hz2; have HLN := Lib.hid (show x2.length ≤ 2000000 by have := arms_len h2; have := HP1.out.1.1; omega); cases HQ2.out; have BR1 := Lib.hid (hk7.cells (alloc_below (HJ1.out.cells (heap_alloc_new w (.cells #[.int .i64 0, .string ⟨#[]⟩, .int .i64 0, .slice none 0 0, .slice none 0 0] 37)) (by omega))) (by omega)); have BM2 := Lib.hid (hk7.cells (heap_alloc_new V1 _) (by have := HK1.out.size; omega)); clear hz2; clear hq2 hp7 hk7 h2))
  have g1 : w.heap.size < V1.heap.size := (by have := HJ1.out.size; simp at this; omega); have g2 : V1.heap.size < V2.heap.size := lt_of_heap BM2.out; have GG := Lib.hid (And.intro g1 g2); clear g1 g2; go_loopg [17] x2.length (fun g v wr => ∃ (m : Nat) (cv kv : Value), m + g = x2.length ∧ v = .int .i64 m ∧ wr.heap[V1.heap.size]? = some (.cells #[.int .i64 k, .string (str x1), .int .i64 0, cv, kv] 37 (0, 0)) ∧ OwnL (fun _ L x => StrCell L x) V2.heap.size 9 1 wr cv ((x2.take m).map Prod.fst) ∧ OwnL (fun _ L x => ExAt (newW (V1.heap.size + 1) V2) L x) V2.heap.size 37 5 wr kv ((x2.take m).map Prod.snd) ∧ KeptN V1.heap.size V2 wr)
  case atStart => exact ⟨0, _, _, by omega, rfl, BM2.out, OwnL.nil _, OwnL.nil _, KeptN.refl _ _⟩
  case round =>
    obtain ⟨wq, rfl⟩ : ∃ W, W = wr := ⟨_, rfl⟩; obtain ⟨m, cv, kv, hmg, rfl, hbm, hoc, hok, hkm⟩ := hrel; obtain ⟨Ac, mc, cc, rfl, hmc⟩ := hoc.shape; obtain ⟨Ak, mk, ck, rfl, hmk⟩ := hok.shape; have HM := Lib.hid hmg; have HBM := Lib.hid hbm; have HOC := Lib.hid hoc; have HOK := Lib.hid hok; have HKM := Lib.hid hkm; have hml : m ≤ x2.length := (by omega); have hmb : m ≤ 2000000 := (by have := HLN.out; omega); have hgq : V1.heap.size < wq.heap.size := lt_of_heap hbm; obtain ⟨p0, p1, p2, p3, p4⟩ := row5 hbm; clear hmg hbm hoc hok hkm hmc hmk; by_cases hlt : m < x2.length
    · obtain ⟨x, hx⟩ : ∃ x, x2[m]? = some x := ⟨_, List.getElem?_eq_getElem hlt⟩; obtain ⟨Lx, hE, hR⟩ := HZ2.out m x hx; have HX := Lib.hid hx; obtain ⟨L', rfl, hxl, hex⟩ := hR; have HXL := Lib.hid hxl; have HEX := Lib.hid (hex.sub (new_mono (B' := V1.heap.size + 1) (by simp) V2)); obtain ⟨o1, s1, n1, A1, m1, k1, B1, j1, l1, rfl⟩ := hex.shape
      have hE2 : ElemAt wq A2 m _ := ElemAt.keptN HKM.out (hE.sub (new_sub _ _)) (fun a ha => by
        obtain ⟨a', e, hc⟩ := hE; have h3 := (new_cell (hc 0 _ rfl)).1; rw [ha] at e; cases e; rw [add_block, add_block] at h3; simp at h3; omega)
      have hlen1 : ((x2.take m).map Prod.fst).length ≤ 2097152 := (by have := HLN.out; simp; omega); have hlen2 : ((x2.take m).map Prod.snd).length ≤ 2097152 := (by have := HLN.out; simp; omega); obtain ⟨a, ea, ha1, ha2, d0, d1, d2, d3, d4, d5⟩ := elem6 hE2; subst ea; clear hE hxl hex hx hE2
      go_wp2_with (first
        | (at_builtin; refine append_ownL2 (R := fun _ L x => StrCell L x) (B := V2.heap.size) (L := [.string (str x.1)]) noSub rfl _ _ rfl Tryz.underlying34 str_info rfl (by decide) (by decide) rfl rfl (alloc_at (by simp)) rfl (oneS _) (OwnL.same noSub HOC.out (((Same.refl _ _).alloc _).alloc _)) (⟨rfl, HXL.out⟩) (hlen1) ?_ ?_; (have := HKM.out.size; simp <;> omega); (intro v5 w5 ho5 hg5; obtain ⟨V5, rfl⟩ : ∃ W, W = w5 := ⟨_, rfl⟩; obtain ⟨A5, m5, c5, rfl, hm5⟩ := ho5.shape; have HO5 := Lib.hid ho5; have BM5 := Lib.hid ((hg5.block _ (by simp <;> omega) (fun e => by have := (HOC.out.row e.symm).1; have := GG.out.2; omega)).trans (alloc_below (alloc_below HBM.out))); have BA5 := Lib.hid ((hg5.block wq.heap.size (by simp <;> omega) (fun e => by have := (HOC.out.lt _ e.symm).2; omega)).trans (alloc_below (heap_alloc_new wq _))); have HK5 := Lib.hid (OwnL.other (OwnL.same noSub HOK.out (((Same.refl _ _).alloc _).alloc _)) hg5 (OwnL.unlike HOK.out HOC.out (by decide))); have HM5 := Lib.hid (((HKM.out.alloc _).alloc _).grown hg5 (fun g e => (HOC.out.row e).1)); obtain ⟨q0, q1, q2, q3, q4⟩ := row5 BM5.out; have f3 := row_frozen BM5.out 3; obtain ⟨_, y1, y2, y3, y4, y5⟩ := row6 BA5.out; have g5 : V1.heap.size < V5.heap.size := lt_of_heap BM5.out; have g6 : wq.heap.size < V5.heap.size := lt_of_heap BA5.out; have g7 : wq.heap.size ≠ V1.heap.size := (by omega); clear ho5 hg5 hm5))
        | (at_builtin; refine append_ownL2 (R := fun _ L x => ExAt (newW (V1.heap.size + 1) V2) L x) (B := V2.heap.size) (L := [.int .i64 o1, .string s1, .int .i64 n1, .slice A1 m1 k1, .slice B1 j1 l1]) noSub rfl _ _ rfl Tryz.underlying35 ex_info5 rfl (by decide) (by decide) rfl rfl (alloc_at (by simp)) rfl (one5 _ _ _ _ _ _ _ _ _) (OwnL.same noSub HK5.out (((Same.refl _ _).set (.inl GG.out.2) _).alloc _)) (HEX.out) (hlen2) ?_ ?_; (have := HM5.out.size; simp <;> omega); (intro v6 w6 ho6 hg6; obtain ⟨V6, rfl⟩ : ∃ W, W = w6 := ⟨_, rfl⟩; obtain ⟨A6, m6, c6, rfl, hm6⟩ := ho6.shape; have HO6 := Lib.hid ho6; have BM6 := Lib.hid ((hg6.block _ (by simp <;> omega) (fun e => by have := (HK5.out.row e.symm).1; have := GG.out.2; omega)).trans (alloc_below (heap_setCell_same V5 V1.heap.size 3 _ _ (.slice A5 m5 c5) BM5.out))); have HC6 := Lib.hid (OwnL.other (OwnL.same noSub HO5.out (((Same.refl _ _).set (.inl GG.out.2) _).alloc _)) hg6 (OwnL.unlike HO5.out HK5.out (by decide))); have HM6 := Lib.hid (((HM5.out.setCell (a := ⟨V1.heap.size, 3, none⟩) rfl _).alloc _).grown hg6 (fun g e => (HK5.out.row e).1)); have BM7 : Hid (V6.heap[V1.heap.size]? = some (.cells #[.int .i64 k, .string (str x1), .int .i64 0, .slice A5 m5 c5, .slice Ak mk ck] 37 (0, 0))) := Lib.hid (by simpa using BM6.out); obtain ⟨q0, q1, q2, q3, q4⟩ := row5 BM7.out; have f4 := row_frozen BM7.out 4; have g5 : V1.heap.size < V6.heap.size := lt_of_heap BM7.out; clear ho6 hg6 hm6)))
      have e1 : (x2.take (m + 1)).map Prod.fst = (x2.take m).map Prod.fst ++ [x.1] := (by rw [List.take_add_one, HX.out]; simp); have e2 : (x2.take (m + 1)).map Prod.snd = (x2.take m).map Prod.snd ++ [x.2] := (by rw [List.take_add_one, HX.out]; simp); go_roundg (x2.length - (m + 1))
      case measure => have := HM.out; have := (List.getElem?_eq_some_iff.1 HX.out).1; omega
      case rel => exact ⟨m + 1, .slice A5 m5 c5, .slice A6 m6 c6, by have := (List.getElem?_eq_some_iff.1 HX.out).1; omega, by have := HLN.out; go_num, by have := heap_setCell_same V6 V1.heap.size 4 _ _ (.slice A6 m6 c6) BM7.out; simpa using this, by rw [e1]; exact OwnL.same noSub HC6.out ((Same.refl _ _).set (.inl GG.out.2) _), by rw [e2]; exact OwnL.same noSub HO6.out ((Same.refl _ _).set (.inl GG.out.2) _), HM6.out.setCell (a := ⟨V1.heap.size, 4, none⟩) rfl _⟩
    · have eS : x2.take m = x2 := List.take_of_length_le (by omega); have h1 := GG.out.1; have h2 := GG.out.2; have BRq := Lib.hid (HKM.out.cells BR1.out (by omega)); have hoc := HOC.out; have hok := HOK.out; rw [eS] at hoc hok; have HOC' := Lib.hid (OwnL.at_ noSub hoc); have HOK' := Lib.hid (OwnL.at_ noSub hok); clear hoc hok eS; obtain ⟨r0, r1, r2, r3, r4⟩ := row5 BRq.out; have f0 := row_frozen BRq.out 0; have f1 := row_frozen BRq.out 1; have f2 := row_frozen BRq.out 2; have f3 := row_frozen BRq.out 3; have f4 := row_frozen BRq.out 4; go_wp2_with fail
      exact bodyPost_ret (choices_results rfl (set_row5 _ _ _ _ _ BRq.out)) rfl ⟨_, rfl, ⟨[.int .i64 k, .string (str x1), .int .i64 0, .slice Ac mc cc, .slice Ak mk ck], rfl, ex_node hk (by constructor <;> omega) HX1.out (SliceAt.sub HOC'.out (((Same.refl V2.heap.size wq).set5 (.inl (by omega)) _ _ _ _ _).sub.trans (new_mono (by omega) _)) (fun _ _ h => h)) (SliceAt.sub HOK'.out (((Same.refl V2.heap.size wq).set5 (.inl (by omega)) _ _ _ _ _).sub.trans (new_mono (by omega) _)) (fun _ _ h => h.sub ((((HKM.out.same (B := V1.heap.size + 1) (Nat.lt_succ_self _)).set5 (.inl (by omega)) _ _ _ _ _).sub).trans (new_mono (by omega) _))))⟩, ((HP2.out.keptM HKM.out (by omega) (by omega)).set5 (by omega) (by omega) _ _ _ _ _), (HK2.out.thenM HKM.out (by omega)).set5 (Nat.le_refl _) _ _ _ _ _⟩
end Go.Proofs.YtlhmdjhfmhkllaaGreatDoor

namespace Go.Proofs.YtlhmdjhfmhkllaaGreatDoor
open Go.RowKit
def ExprOk (f : Nat) : Prop := (∀ s, 1 ≤ s → s ≤ 8 → OpOk f s) ∧ PartOk 111 REx (fun o ts => unX f ts o)
theorem exprs_upto : ∀ (f : Nat), ∀ g, g ≤ f → ExprOk g := by
  intro f; induction f with
  | zero =>
    intro g hg; have : g = 0 := by omega
    subst this; refine ⟨fun s _ _ N G o ts q hq => ?_, fun N G o ts q hq => ?_⟩
    · rw [opX] at hq; cases hq
    · replace hq : unX 0 ts o = some q := hq; rw [unX] at hq; cases hq
  | succ f ih =>
    intro g hg; by_cases h : g ≤ f
    · exact ih g h
    · have : g = f + 1 := by omega
      subst this; have hf := ih f (Nat.le_refl _); have HE := pexpr_any (hf.1 1 (Nat.le_refl _) (by omega)); have HA := atom_any HE (fun k hk => choices_any HE k hk); have HS := sampled_any hf.2 HA; have HP := prefixed_any hf.2 HE HS; refine ⟨fun s h1 h8 => operation_any (fun g hg => (ih g hg).1) hf.2 s h1 h8, ?_⟩; refine unary_any (P := fun ts o => prefixedP (unX f) (opX f 1) o ts) HP (fun t r o => ?_) (fun o => ?_)
      · rw [unX]
      · rw [unX]
/-- what the parser's expr answers, whatever the fuel -/
theorem expr_all (f : Nat) : PartOk 31 REx (fun o ts => opX f 1 ts o) := pexpr_any ((exprs_upto f f (Nat.le_refl _)).1 1 (Nat.le_refl _) (by omega))
end Go.Proofs.YtlhmdjhfmhkllaaGreatDoor

namespace Go.Proofs.YtlhmdjhfmhkllaaGreatDoor
open Go.RowKit
theorem want_eqsign : ∀ (N G o : Nat) (ts : List Tok) (q : Out Unit), wantP eqSign ts = some q → ∀ w, PState w N G ts o → Calls Tryz.prog 82 #[.pointer (some ⟨N, 0, none⟩), .string ⟨#[61]⟩] w (PPost RUnit N G o q w) := want_any eqSign
theorem want_semi : ∀ (N G o : Nat) (ts : List Tok) (q : Out Unit), wantP semiT ts = some q → ∀ w, PState w N G ts o → Calls Tryz.prog 82 #[.pointer (some ⟨N, 0, none⟩), .string ⟨#[59]⟩] w (PPost RUnit N G o q w) := want_any semiT
theorem want_colon : ∀ (N G o : Nat) (ts : List Tok) (q : Out Unit), wantP colonT ts = some q → ∀ w, PState w N G ts o → Calls Tryz.prog 82 #[.pointer (some ⟨N, 0, none⟩), .string ⟨#[58]⟩] w (PPost RUnit N G o q w) := want_any colonT
theorem want_until : ∀ (N G o : Nat) (ts : List Tok) (q : Out Unit), wantP untilT ts = some q → ∀ w, PState w N G ts o → Calls Tryz.prog 82 #[.pointer (some ⟨N, 0, none⟩), .string ⟨#[117, 110, 116, 105, 108]⟩] w (PPost RUnit N G o q w) := want_any untilT
theorem want_state : ∀ (N G o : Nat) (ts : List Tok) (q : Out Unit), wantP stateW ts = some q → ∀ w, PState w N G ts o → Calls Tryz.prog 82 #[.pointer (some ⟨N, 0, none⟩), .string ⟨#[115, 116, 97, 116, 101]⟩] w (PPost RUnit N G o q w) := want_any stateW
theorem want_auto : ∀ (N G o : Nat) (ts : List Tok) (q : Out Unit), wantP autoT ts = some q → ∀ w, PState w N G ts o → Calls Tryz.prog 82 #[.pointer (some ⟨N, 0, none⟩), .string ⟨#[97, 117, 116, 111, 109, 97, 116, 111, 110]⟩] w (PPost RUnit N G o q w) := want_any autoT
theorem want_end : ∀ (N G o : Nat) (ts : List Tok) (q : Out Unit), wantP endW ts = some q → ∀ w, PState w N G ts o → Calls Tryz.prog 82 #[.pointer (some ⟨N, 0, none⟩), .string ⟨#[101, 110, 100]⟩] w (PPost RUnit N G o q w) := want_any endW
theorem want_type : ∀ (N G o : Nat) (ts : List Tok) (q : Out Unit), wantP typeW ts = some q → ∀ w, PState w N G ts o → Calls Tryz.prog 82 #[.pointer (some ⟨N, 0, none⟩), .string ⟨#[116, 121, 112, 101]⟩] w (PPost RUnit N G o q w) := want_any typeW
theorem want_node : ∀ (N G o : Nat) (ts : List Tok) (q : Out Unit), wantP nodeW ts = some q → ∀ w, PState w N G ts o → Calls Tryz.prog 82 #[.pointer (some ⟨N, 0, none⟩), .string ⟨#[110, 111, 100, 101]⟩] w (PPost RUnit N G o q w) := want_any nodeW
theorem want_where : ∀ (N G o : Nat) (ts : List Tok) (q : Out Unit), wantP whereT ts = some q → ∀ w, PState w N G ts o → Calls Tryz.prog 82 #[.pointer (some ⟨N, 0, none⟩), .string ⟨#[119, 104, 101, 114, 101]⟩] w (PPost RUnit N G o q w) := want_any whereT
theorem at_auto {w : World} {N G : Nat} {t : Tok} {r : List Tok} {o : Nat} (h : PState w N G (t :: r) o) : Calls Tryz.prog 134 #[.pointer (some ⟨N, 0, none⟩), .string ⟨#[97, 117, 116, 111, 109, 97, 116, 111, 110]⟩] w (BoolPost (decide (t.text = autoT)) w) := at_any h autoT
theorem at_state {w : World} {N G : Nat} {t : Tok} {r : List Tok} {o : Nat} (h : PState w N G (t :: r) o) : Calls Tryz.prog 134 #[.pointer (some ⟨N, 0, none⟩), .string ⟨#[115, 116, 97, 116, 101]⟩] w (BoolPost (decide (t.text = stateW)) w) := at_any h stateW
theorem at_until {w : World} {N G : Nat} {t : Tok} {r : List Tok} {o : Nat} (h : PState w N G (t :: r) o) : Calls Tryz.prog 134 #[.pointer (some ⟨N, 0, none⟩), .string ⟨#[117, 110, 116, 105, 108]⟩] w (BoolPost (decide (t.text = untilT)) w) := at_any h untilT
theorem enter_equation : ∀ (args : Array Value) (W : World), (callFunc 137 args).run Tryz.prog W = .ok (.enter 137 args) W := enters_of Tryz.func137 (by kernel_rfl) rfl
theorem enter_way : ∀ (args : Array Value) (W : World), (callFunc 186 args).run Tryz.prog W = .ok (.enter 186 args) W := enters_of Tryz.func186 (by kernel_rfl) rfl
theorem enter_state : ∀ (args : Array Value) (W : World), (callFunc 163 args).run Tryz.prog W = .ok (.enter 163 args) W := enters_of Tryz.func163 (by kernel_rfl) rfl
theorem enter_item : ∀ (args : Array Value) (W : World), (callFunc 91 args).run Tryz.prog W = .ok (.enter 91 args) W := enters_of Tryz.func91 (by kernel_rfl) rfl
theorem enter_atEquation : ∀ (args : Array Value) (W : World), (callFunc 135 args).run Tryz.prog W = .ok (.enter 135 args) W := enters_of Tryz.func135 (by kernel_rfl) rfl
theorem enter_atWay : ∀ (args : Array Value) (W : World), (callFunc 185 args).run Tryz.prog W = .ok (.enter 185 args) W := enters_of Tryz.func185 (by kernel_rfl) rfl
theorem enter_atState : ∀ (args : Array Value) (W : World), (callFunc 165 args).run Tryz.prog W = .ok (.enter 165 args) W := enters_of Tryz.func165 (by kernel_rfl) rfl
theorem enter_atItem : ∀ (args : Array Value) (W : World), (callFunc 90 args).run Tryz.prog W = .ok (.enter 90 args) W := enters_of Tryz.func90 (by kernel_rfl) rfl
theorem enter_con : ∀ (args : Array Value) (W : World), (callFunc 85 args).run Tryz.prog W = .ok (.enter 85 args) W := enters_of Tryz.func85 (by kernel_rfl) rfl
set_option maxHeartbeats 1000000 in
theorem atState_any : BegOk 165 (atP stateW) := by
  intro N G o t r w h; have H := Lib.hid (at_state h); have HD := Lib.hid (show atP stateW (t :: r) = decide (t.text = stateW) from rfl); clear h; go_enter Tryz.func165, Tryz.ntmps165
  go_wp2_with (go_at_call 134
               (with_reducible refine H.out.mono ?_); rintro e w7 ⟨rfl, hb7⟩; have HB := Lib.hid hb7; clear hb7)
  go_ret; exact ⟨ret_bool HD.out.symm, HB.out⟩
set_option maxHeartbeats 1000000 in
theorem atWay_any : BegOk 185 (atP untilT) := by
  intro N G o t r w h; have H := Lib.hid (at_until h); have HD := Lib.hid (show atP untilT (t :: r) = decide (t.text = untilT) from rfl); clear h; go_enter Tryz.func185, Tryz.ntmps185
  go_wp2_with (go_at_call 134
               (with_reducible refine H.out.mono ?_); rintro e w7 ⟨rfl, hb7⟩; have HB := Lib.hid hb7; clear hb7)
  go_ret; exact ⟨ret_bool HD.out.symm, HB.out⟩
set_option maxHeartbeats 1000000 in
theorem atEquation_any : BegOk 135 atEqP := by
  intro N G o t r w h; have HN := Lib.hid (next_any h); have HP := Lib.hid h; have f0 := tok_f0; by_cases hs : t.sort = 1
  · have HD := Lib.hid (show atEqP (t :: r) = true by simp [atEqP, hs]); have h1 : (t.sort == 1) = true := (by simpa using hs); clear h hs; go_enter Tryz.func135, Tryz.ntmps135
    go_wp2_with (go_at_call 40
                 (with_reducible refine HN.out.mono ?_); rintro e w7 ⟨rfl, hb7⟩; have HB := Lib.hid hb7; simp only [Tok.cells]; clear hb7)
    go_ret; exact ⟨ret_bool HD.out.symm, HB.out⟩
  · have HD := Lib.hid (show atEqP (t :: r) = decide (t.text = openT) by simp [atEqP, hs]); have h1 : (t.sort == 1) = false := (by simpa using hs); clear h hs; go_enter Tryz.func135, Tryz.ntmps135
    go_wp2_with (first
      | (go_at_call 40; (with_reducible refine HN.out.mono ?_); rintro e w7 ⟨rfl, hb7⟩; have HB := Lib.hid hb7; simp only [Tok.cells]; clear hb7)
      | (go_at_call 134; (with_reducible refine (at_open (HP.out.under HB.out)).mono ?_); rintro e w8 ⟨rfl, hb8⟩; have HB8 := Lib.hid (HB.out.trans (hb8.mono HB.out.size)); clear hb8))
    go_ret; exact ⟨ret_bool HD.out.symm, HB8.out⟩
set_option maxHeartbeats 1000000 in
theorem atItem_any : BegOk 90 atItemP := by
  intro N G o t r w h; have HA := Lib.hid (at_auto h); have HP := Lib.hid h; by_cases hs : t.text = autoT
  · have HD := Lib.hid (show atItemP (t :: r) = true by simp [atItemP, atP, hs]); rw [decide_eq_true hs] at HA; clear h hs; go_enter Tryz.func90, Tryz.ntmps90
    go_wp2_with (go_at_call 134
                 (with_reducible refine HA.out.mono ?_); rintro e w7 ⟨rfl, hb7⟩; have HB := Lib.hid hb7; clear hb7)
    go_ret; exact ⟨ret_bool HD.out.symm, HB.out⟩
  · have HD := Lib.hid (show atItemP (t :: r) = atEqP (t :: r) by simp [atItemP, atP, hs]); rw [decide_eq_false hs] at HA; clear h hs; go_enter Tryz.func90, Tryz.ntmps90
    go_wp2_with (first
      | (go_at_call 134; (with_reducible refine HA.out.mono ?_); rintro e w7 ⟨rfl, hb7⟩; have HB := Lib.hid hb7; clear hb7)
      | (go_at_call 135; (with_reducible refine (atEquation_any N G o t r _ (HP.out.under HB.out)).mono ?_); rintro e w8 ⟨rfl, hb8⟩; have HB8 := Lib.hid (HB.out.trans (hb8.mono HB.out.size)); clear hb8))
    go_ret; exact ⟨ret_bool HD.out.symm, HB8.out⟩
/- what keeps all but the part's own block -/
theorem Same.kk {B K : Nat} {a b c : World} (h : Same B a b) (k : KeptN K b c) (hK : K < B ∨ a.heap.size ≤ K) : Same B a c :=
  ⟨Nat.le_trans h.1 k.size, fun i h1 h2 => (k.block i (Nat.lt_of_lt_of_le h2 h.1) (by omega)).trans (h.2 i h1 h2)⟩
theorem set_row2 {w : World} {K : Nat} {T0 : TypeId} {a b : Value} (x y : Value) (h : w.heap[K]? = some (.cells #[a, b] T0 (0, 0))) : ((w.setCell ⟨K, 0, none⟩ x).setCell ⟨K, 1, none⟩ y).heap[K]? = some (.cells #[x, y] T0 (0, 0)) := by
  have h1 := heap_setCell_same w K 0 _ _ x h; have h2 := heap_setCell_same _ K 1 _ _ y h1; simpa using h2
theorem set_row7 {w : World} {K : Nat} {T0 : TypeId} {a b c d e f g : Value} (x y z u v s t : Value) (h : w.heap[K]? = some (.cells #[a, b, c, d, e, f, g] T0 (0, 0))) : (((((((w.setCell ⟨K, 0, none⟩ x).setCell ⟨K, 1, none⟩ y).setCell ⟨K, 2, none⟩ z).setCell ⟨K, 3, none⟩ u).setCell ⟨K, 4, none⟩ v).setCell ⟨K, 5, none⟩ s).setCell ⟨K, 6, none⟩ t).heap[K]? = some (.cells #[x, y, z, u, v, s, t] T0 (0, 0)) := by
  have h1 := heap_setCell_same w K 0 _ _ x h; have h2 := heap_setCell_same _ K 1 _ _ y h1; have h3 := heap_setCell_same _ K 2 _ _ z h2; have h4 := heap_setCell_same _ K 3 _ _ u h3; have h5 := heap_setCell_same _ K 4 _ _ v h4; have h6 := heap_setCell_same _ K 5 _ _ s h5; have h7 := heap_setCell_same _ K 6 _ _ t h6; simpa using h7
theorem EqAt.lift {w w' : World} {B B' : Nat} {L : List Value} {x : QEq} (h : EqAt (newW B w) L x) (hs : Same B w w') (hB : B' ≤ B) : EqAt (newW B' w') L x := (h.sub hs.sub).sub (new_mono hB w')
theorem StateAt.lift {w w' : World} {B B' : Nat} {L : List Value} {x : QState} (h : StateAt (newW B w) L x) (hs : Same B w w') (hB : B' ≤ B) : StateAt (newW B' w') L x := (h.sub hs.sub).sub (new_mono hB w')
def RNodeV (w : World) (v : Value) (x : QNode) : Prop := ∃ L : List Value, v = .agg L.toArray ∧ NodeAt w L x
def REnumV (w : World) (v : Value) (x : QEnum) : Prop := ∃ L : List Value, v = .agg L.toArray ∧ EnumAt w L x
set_option maxHeartbeats 2000000 in
theorem defined_any : PartOk 166 RStrs (fun _ => definedP) := by
  intro N G o ts q hq w h; have hmf := make_fn; replace hq : definedP ts = some q := hq; cases ts with
  | nil =>
    obtain ⟨_, h1, _⟩ : ∃ q', bindP (nameP []) (fun n ts => some (.ok [n] ts)) = some q' ∧ True := ⟨q, by simpa [definedP, atP] using hq, trivial⟩; cases h1
  | cons t r =>
    have HA := Lib.hid (at_open h); have HP := Lib.hid h; by_cases ht : t.text = openT
    · rw [decide_eq_true ht] at HA; have hq : enclosedP openT namesP shutT (t :: r) = some q := (by have h2 : atP openT (t :: r) = true := decide_eq_true ht; unfold definedP at hq; rwa [if_pos h2] at hq); have H := Lib.hid (fun (w : World) (h : PState w N G (t :: r) o) => show Calls Tryz.prog 87 #[.pointer (some ⟨N, 0, none⟩), .string ⟨#[40]⟩, .func (.func 88) #[.pointer (some ⟨N, 0, none⟩)] #[], .string ⟨#[41]⟩] w (PPost RStrs N G o q w) from enclosedS_any enter_names pnames_any openT shutT N G o (t :: r) q hq w h); clear h hq ht; cases q with
      | bad f =>
        go_enter Tryz.func166, Tryz.ntmps166
        go_wp2_with (first
          | (go_at_call 134; (with_reducible refine HA.out.mono ?_); rintro e w7 ⟨rfl, hb7⟩; obtain ⟨V, rfl⟩ : ∃ W, W = w7 := ⟨_, rfl⟩; have HV := Lib.hid hb7; clear hb7)
          | (go_at_call 87; (with_reducible refine (H.out _ (HP.out.under HV.out)).mono ?_); rintro e w7 ⟨rfl, hk7⟩; have HK := Lib.hid ((KeptN.of_below HV.out).trans hk7); clear hk7))
        exact ⟨rfl, rfl, HK.out⟩
      | ok x r =>
        go_enter Tryz.func166, Tryz.ntmps166
        go_wp2_with (first
          | (go_at_call 134; (with_reducible refine HA.out.mono ?_); rintro e w7 ⟨rfl, hb7⟩; obtain ⟨V, rfl⟩ : ∃ W, W = w7 := ⟨_, rfl⟩; have HV := Lib.hid hb7; clear hb7)
          | (go_at_call 87; (with_reducible refine (H.out _ (HP.out.under HV.out)).mono ?_); rintro e w7 ⟨v, rfl, hr, hp, hk⟩; have HR := Lib.hid hr; have HP7 := Lib.hid hp; have HK := Lib.hid ((KeptN.of_below HV.out).trans hk); clear hr hp hk))
        go_ret; exact ⟨_, rfl, HR.out.lift (Same.refl _ _) HV.out.size, HP7.out, HK.out⟩
    · rw [decide_eq_false ht] at HA; have hq : bindP (nameP (t :: r)) (fun n ts => some (.ok [n] ts)) = some q := (by have h2 : atP openT (t :: r) = false := decide_eq_false ht; unfold definedP at hq; rwa [if_neg (by rw [h2]; simp)] at hq); have HQ := Lib.hid hq; clear h ht hq; go_enter Tryz.func166, Tryz.ntmps166
      go_wp2_with (first
        | (go_at_call 134; (with_reducible refine HA.out.mono ?_); rintro e w7 ⟨rfl, hb7⟩; obtain ⟨V, rfl⟩ : ∃ W, W = w7 := ⟨_, rfl⟩; have HV := Lib.hid hb7; clear hb7)
        | (go_at_call 83; rcases bindP_some HQ.out with ⟨f, hf, rfl⟩ | ⟨x1, ts1, h1, hq1⟩
           · (with_reducible refine (name_any N G o _ _ hf _ (HP.out.under HV.out)).mono ?_); rintro e w7 ⟨rfl, hk7⟩; exact ⟨rfl, rfl, (KeptN.of_below HV.out).trans hk7⟩
           (with_reducible refine (name_any N G o _ _ h1 _ (HP.out.under HV.out)).mono ?_); rintro e w8 ⟨v, rfl, hr, hp, hk⟩; obtain ⟨V2, rfl⟩ : ∃ W, W = w8 := ⟨_, rfl⟩; obtain ⟨rfl, hxl⟩ := hr; have HX := Lib.hid hxl; have HP7 := Lib.hid hp; have HK := Lib.hid ((KeptN.of_below HV.out).trans hk); cases hq1; clear hp hk hxl h1))
      go_ret; have hO := OwnL.one (R := (fun _ L x => StrCell L x)) (B := w.heap.size) (T := 9) (n := 1) (w := V2) (L := [.string (str x1)]) (x := x1) strSub rfl ⟨rfl, HX.out⟩ HK.out.size; exact ⟨_, rfl, OwnL.at_ strSub hO, HP7.out.under ((Below.refl _ _).alloc (Nat.le_refl _) _), HK.out.alloc _⟩
end Go.Proofs.YtlhmdjhfmhkllaaGreatDoor

namespace Go.Proofs.YtlhmdjhfmhkllaaGreatDoor
open Go.RowKit
theorem equation_info : (Tryz.prog.info? 73).map (·.size) = some 6 := by kernel_rfl
set_option maxRecDepth 100000 in
theorem equation_results {tmps : Array Value} {w : World} {N : Nat} {x0 x1 x2 x3 x4 x5 : Value} (hp : tmps.getD 2 undef = .pointer (some ⟨N, 0, none⟩)) (hg : w.heap[N]? = some (.cells #[x0, x1, x2, x3, x4, x5] 73 (0, 0))) :
    (results Tryz.f137 tmps).run Tryz.prog w = .ok (.agg #[x0, x1, x2, x3, x4, x5]) w :=
  results_cell_row Tryz.results137 tmps w N 73 _ (0, 0) _ hp hg Tryz.underlying73 rfl equation_info
set_option maxRecDepth 100000 in
set_option maxHeartbeats 2000000 in
theorem pequation_any {E : PrX} (HE : PartOk 31 REx (fun o ts => E ts o)) : PartOk 137 RQV (fun o => equationP fun ts => E ts o) := by
  intro N G o ts q hq w h; have HQ0 := Lib.hid (show bindP (definedP ts) (fun l ts => bindP (wantP eqSign ts) fun _ ts => bindP (E ts o) fun e ts => bindP (wantP semiT ts) fun _ ts => some (.ok ⟨l, e⟩ ts)) = some q from hq); have HP0 := Lib.hid h; have HK0 := Lib.hid (KeptN.refl N w); have HEE := Lib.hid HE; have hmf := make_fn; have hN := h.lt; have hG := h.2.2.1; clear h hq HE; go_enter Tryz.func137, Tryz.ntmps137
  go_wp2_with (first
    | (go_at_call 166; rcases bindP_some HQ0.out with ⟨f, hf, rfl⟩ | ⟨x1, ts1, h1, hq1⟩
       · (with_reducible refine (defined_any N G o _ _ hf _ (HP0.out.under ((Below.refl _ _).alloc (Nat.le_refl _) (.cells #[.slice none 0 0, .int .i64 0, .string ⟨#[]⟩, .int .i64 0, .slice none 0 0, .slice none 0 0] 73)))).mono ?_); rintro e w7 ⟨rfl, hk7⟩; exact ⟨rfl, rfl, (HK0.out.alloc (.cells #[.slice none 0 0, .int .i64 0, .string ⟨#[]⟩, .int .i64 0, .slice none 0 0, .slice none 0 0] 73)).trans hk7⟩
       (with_reducible refine (defined_any N G o _ _ h1 _ (HP0.out.under ((Below.refl _ _).alloc (Nat.le_refl _) (.cells #[.slice none 0 0, .int .i64 0, .string ⟨#[]⟩, .int .i64 0, .slice none 0 0, .slice none 0 0] 73)))).mono ?_); rintro e w7 ⟨v1, rfl, hr7, hp7, hk7⟩; obtain ⟨V1, rfl⟩ : ∃ W, W = w7 := ⟨_, rfl⟩; have HQ1 := Lib.hid hq1; have HP1 := Lib.hid hp7; have HK1 := Lib.hid ((HK0.out.alloc (.cells #[.slice none 0 0, .int .i64 0, .string ⟨#[]⟩, .int .i64 0, .slice none 0 0, .slice none 0 0] 73)).trans hk7); have HJ1 := Lib.hid hk7; have q1 : w.heap.size + 1 ≤ V1.heap.size := (by have := hk7.size; simpa using this); have HZ1 := Lib.hid (hk7.cells (heap_alloc_new w (.cells #[.slice none 0 0, .int .i64 0, .string ⟨#[]⟩, .int .i64 0, .slice none 0 0, .slice none 0 0] 73)) (by omega)); obtain ⟨A1, m1, l1, rfl⟩ := SliceAt.shape hr7; have HX1 := Lib.hid (RStrs.lift (B' := w.heap.size + 1) hr7 (Same.refl _ _) (Nat.le_of_eq (by simp))); have PW1 := Lib.hid (HP1.out.under ((Below.refl _ _).alloc (Nat.le_refl _) (.cells #[.slice A1 m1 l1, .int .i64 0, .string ⟨#[]⟩, .int .i64 0, .slice none 0 0, .slice none 0 0] 73))); have KK1 := Lib.hid (HK1.out.alloc (.cells #[.slice A1 m1 l1, .int .i64 0, .string ⟨#[]⟩, .int .i64 0, .slice none 0 0, .slice none 0 0] 73)); have ZW1 := Lib.hid (alloc_below (o := (.cells #[.slice A1 m1 l1, .int .i64 0, .string ⟨#[]⟩, .int .i64 0, .slice none 0 0, .slice none 0 0] 73)) HZ1.out); have CW1 := Lib.hid (heap_alloc_new V1 (.cells #[.slice A1 m1 l1, .int .i64 0, .string ⟨#[]⟩, .int .i64 0, .slice none 0 0, .slice none 0 0] 73)); clear hq1 hp7 hk7 h1)
    | (go_at_call 82; rcases bindP_some HQ1.out with ⟨f, hf, rfl⟩ | ⟨x2, ts2, h2, hq2⟩
       · (with_reducible refine (want_eqsign N G o _ _ hf _ PW1.out).mono ?_); rintro e w7 ⟨rfl, hk7⟩; exact ⟨rfl, rfl, KK1.out.trans hk7⟩
       (with_reducible refine (want_eqsign N G o _ _ h2 _ PW1.out).mono ?_); rintro e w7 ⟨v2, rfl, hr7, hp7, hk7⟩; obtain ⟨V2, rfl⟩ : ∃ W, W = w7 := ⟨_, rfl⟩; have HQ2 := Lib.hid hq2; have HP2 := Lib.hid hp7; have HK2 := Lib.hid (KK1.out.trans hk7); have HJ2 := Lib.hid hk7; have q2 : V1.heap.size + 1 ≤ V2.heap.size := (by have := hk7.size; simpa using this); have HZ2 := Lib.hid (hk7.cells ZW1.out (by omega)); have HC2 := Lib.hid (hk7.cells CW1.out (by omega)); cases hr7; clear hq2 hp7 hk7 h2)
    | (go_at_call 31; rcases bindP_some HQ2.out with ⟨f, hf, rfl⟩ | ⟨x3, ts3, h3, hq3⟩
       · (with_reducible refine (HEE.out N G o _ _ hf _ HP2.out).mono ?_); rintro e w7 ⟨rfl, hk7⟩; exact ⟨rfl, rfl, HK2.out.trans hk7⟩
       (with_reducible refine (HEE.out N G o _ _ h3 _ HP2.out).mono ?_); rintro e w7 ⟨v3, rfl, hr7, hp7, hk7⟩; obtain ⟨V3, rfl⟩ : ∃ W, W = w7 := ⟨_, rfl⟩; have HQ3 := Lib.hid hq3; have HP3 := Lib.hid hp7; have HK3 := Lib.hid (HK2.out.trans hk7); have HJ3 := Lib.hid hk7; have q3 : V2.heap.size ≤ V3.heap.size := hk7.size; have HZ3 := Lib.hid (hk7.cells HZ2.out (by omega)); have HC3 := Lib.hid (hk7.cells HC2.out (by omega)); obtain ⟨L3, rfl, hx⟩ := hr7; have HX3 := Lib.hid (ExAt.lift (B' := V2.heap.size) hx (Same.refl _ _) (Nat.le_refl _)); obtain ⟨o3, s3, n3, A3, m3, k3, B3, j3, l3, rfl⟩ := hx.shape; clear hx; have KW3 := Lib.hid ((((((KeptN.refl V1.heap.size V3).setCell (a := ⟨V1.heap.size, 1, none⟩) rfl (.int .i64 o3)).setCell (a := ⟨V1.heap.size, 2, none⟩) rfl (.string s3)).setCell (a := ⟨V1.heap.size, 3, none⟩) rfl (.int .i64 n3)).setCell (a := ⟨V1.heap.size, 4, none⟩) rfl (.slice A3 m3 k3)).setCell (a := ⟨V1.heap.size, 5, none⟩) rfl (.slice B3 j3 l3)); have PW3 := Lib.hid (HP3.out.keptM KW3.out (by omega) (by omega)); have ZW3 := Lib.hid (KW3.out.cells HZ3.out (by omega)); have KK3 := Lib.hid (HK3.out.thenM KW3.out (by omega)); have CW3 := Lib.hid ((heap_setCell_same _ _ 5 _ _ (.slice B3 j3 l3) (heap_setCell_same _ _ 4 _ _ (.slice A3 m3 k3) (heap_setCell_same _ _ 3 _ _ (.int .i64 n3) (heap_setCell_same _ _ 2 _ _ (.string s3) (heap_setCell_same _ _ 1 _ _ (.int .i64 o3) HC3.out)))))); obtain ⟨c3_0, c3_1, c3_2, c3_3, c3_4, c3_5⟩ := row6 HC3.out; have g3_1 := row_frozen HC3.out 1; have g3_2 := row_frozen HC3.out 2; have g3_3 := row_frozen HC3.out 3; have g3_4 := row_frozen HC3.out 4; have g3_5 := row_frozen HC3.out 5; clear hq3 hp7 hk7 h3)
    | (go_at_call 82; rcases bindP_some HQ3.out with ⟨f, hf, rfl⟩ | ⟨x4, ts4, h4, hq4⟩
       · (with_reducible refine (want_semi N G o _ _ hf _ PW3.out).mono ?_); rintro e w7 ⟨rfl, hk7⟩; exact ⟨rfl, rfl, KK3.out.trans hk7⟩
       (with_reducible refine (want_semi N G o _ _ h4 _ PW3.out).mono ?_); rintro e w7 ⟨v4, rfl, hr7, hp7, hk7⟩; obtain ⟨V4, rfl⟩ : ∃ W, W = w7 := ⟨_, rfl⟩; have HQ4 := Lib.hid hq4; have HP4 := Lib.hid hp7; have HK4 := Lib.hid (KK3.out.trans hk7); have HJ4 := Lib.hid hk7; have q4 : V3.heap.size ≤ V4.heap.size := Nat.le_trans KW3.out.size hk7.size; have HZ4 := Lib.hid (hk7.cells ZW3.out (by omega)); have HC4 := Lib.hid (hk7.cells CW3.out (by omega)); cases hr7; cases HQ4.out; obtain ⟨r0, r1, r2, r3, r4, r5⟩ := row6 HZ4.out; have f0 := row_frozen HZ4.out 0; have f1 := row_frozen HZ4.out 1; have f2 := row_frozen HZ4.out 2; have f3 := row_frozen HZ4.out 3; have f4 := row_frozen HZ4.out 4; have f5 := row_frozen HZ4.out 5; obtain ⟨d0, d1, d2, d3, d4, d5⟩ := row6 HC4.out; clear hq4 hp7 hk7 h4))
  have KF := (((((((KeptN.refl w.heap.size V4).setCell (a := ⟨w.heap.size, 0, none⟩) rfl (.slice A1 m1 l1)).setCell (a := ⟨w.heap.size, 1, none⟩) rfl (.int .i64 o3)).setCell (a := ⟨w.heap.size, 2, none⟩) rfl (.string s3)).setCell (a := ⟨w.heap.size, 3, none⟩) rfl (.int .i64 n3)).setCell (a := ⟨w.heap.size, 4, none⟩) rfl (.slice A3 m3 k3)).setCell (a := ⟨w.heap.size, 5, none⟩) rfl (.slice B3 j3 l3)); exact bodyPost_ret (equation_results rfl (set_row6 _ _ _ _ _ _ HZ4.out)) rfl ⟨_, rfl, ⟨_, rfl, ⟨_, _, rfl, (RStrs.lift HX1.out (((((((Same.refl (w.heap.size + 1) V1).alloc _).kk HJ2.out (by omega)).kk HJ3.out (by omega)).kk KW3.out (by omega)).kk HJ4.out (by omega)).kk KF (by omega)) (by omega)), (ExAt.lift HX3.out ((((Same.refl (V2.heap.size) V3).kk KW3.out (by omega)).kk HJ4.out (by omega)).kk KF (by omega)) (by omega))⟩⟩, HP4.out.keptM KF (by omega) (by omega), HK4.out.thenM KF (Nat.le_refl _)⟩
theorem way_info : (Tryz.prog.info? 118).map (·.size) = some 6 := by kernel_rfl
set_option maxRecDepth 100000 in
theorem way_results {tmps : Array Value} {w : World} {N : Nat} {x0 x1 x2 x3 x4 x5 : Value} (hp : tmps.getD 2 undef = .pointer (some ⟨N, 0, none⟩)) (hg : w.heap[N]? = some (.cells #[x0, x1, x2, x3, x4, x5] 118 (0, 0))) :
    (results Tryz.f186 tmps).run Tryz.prog w = .ok (.agg #[x0, x1, x2, x3, x4, x5]) w :=
  results_cell_row Tryz.results186 tmps w N 118 _ (0, 0) _ hp hg Tryz.underlying118 rfl way_info
set_option maxRecDepth 100000 in
set_option maxHeartbeats 2000000 in
theorem pway_any {E : PrX} (HE : PartOk 31 REx (fun o ts => E ts o)) : PartOk 186 RYV (fun o => wayP fun ts => E ts o) := by
  intro N G o ts q hq w h; have HQ0 := Lib.hid (show bindP (wantP untilT ts) (fun _ ts => bindP (E ts o) fun e ts => bindP (wantP thenT ts) fun _ ts => bindP (conP ts) fun c ts => bindP (wantP semiT ts) fun _ ts => some (.ok ⟨e, c⟩ ts)) = some q from hq); have HP0 := Lib.hid h; have HK0 := Lib.hid (KeptN.refl N w); have HEE := Lib.hid HE; have hmf := make_fn; have hN := h.lt; have hG := h.2.2.1; clear h hq HE; go_enter Tryz.func186, Tryz.ntmps186
  go_wp2_with (first
    | (go_at_call 82; rcases bindP_some HQ0.out with ⟨f, hf, rfl⟩ | ⟨x1, ts1, h1, hq1⟩
       · (with_reducible refine (want_until N G o _ _ hf _ (HP0.out.under ((Below.refl _ _).alloc (Nat.le_refl _) (.cells #[.int .i64 0, .string ⟨#[]⟩, .int .i64 0, .slice none 0 0, .slice none 0 0, .string ⟨#[]⟩] 118)))).mono ?_); rintro e w7 ⟨rfl, hk7⟩; exact ⟨rfl, rfl, (HK0.out.alloc (.cells #[.int .i64 0, .string ⟨#[]⟩, .int .i64 0, .slice none 0 0, .slice none 0 0, .string ⟨#[]⟩] 118)).trans hk7⟩
       (with_reducible refine (want_until N G o _ _ h1 _ (HP0.out.under ((Below.refl _ _).alloc (Nat.le_refl _) (.cells #[.int .i64 0, .string ⟨#[]⟩, .int .i64 0, .slice none 0 0, .slice none 0 0, .string ⟨#[]⟩] 118)))).mono ?_); rintro e w7 ⟨v1, rfl, hr7, hp7, hk7⟩; obtain ⟨V1, rfl⟩ : ∃ W, W = w7 := ⟨_, rfl⟩; have HQ1 := Lib.hid hq1; have HP1 := Lib.hid hp7; have HK1 := Lib.hid ((HK0.out.alloc (.cells #[.int .i64 0, .string ⟨#[]⟩, .int .i64 0, .slice none 0 0, .slice none 0 0, .string ⟨#[]⟩] 118)).trans hk7); have HJ1 := Lib.hid hk7; have q1 : w.heap.size + 1 ≤ V1.heap.size := (by have := hk7.size; simpa using this); have HZ1 := Lib.hid (hk7.cells (heap_alloc_new w (.cells #[.int .i64 0, .string ⟨#[]⟩, .int .i64 0, .slice none 0 0, .slice none 0 0, .string ⟨#[]⟩] 118)) (by omega)); cases hr7; clear hq1 hp7 hk7 h1)
    | (go_at_call 31; rcases bindP_some HQ1.out with ⟨f, hf, rfl⟩ | ⟨x2, ts2, h2, hq2⟩
       · (with_reducible refine (HEE.out N G o _ _ hf _ HP1.out).mono ?_); rintro e w7 ⟨rfl, hk7⟩; exact ⟨rfl, rfl, HK1.out.trans hk7⟩
       (with_reducible refine (HEE.out N G o _ _ h2 _ HP1.out).mono ?_); rintro e w7 ⟨v2, rfl, hr7, hp7, hk7⟩; obtain ⟨V2, rfl⟩ : ∃ W, W = w7 := ⟨_, rfl⟩; have HQ2 := Lib.hid hq2; have HP2 := Lib.hid hp7; have HK2 := Lib.hid (HK1.out.trans hk7); have HJ2 := Lib.hid hk7; have q2 : V1.heap.size ≤ V2.heap.size := hk7.size; have HZ2 := Lib.hid (hk7.cells HZ1.out (by omega)); obtain ⟨L2, rfl, hx⟩ := hr7; have HX2 := Lib.hid (ExAt.lift (B' := V1.heap.size) hx (Same.refl _ _) (Nat.le_refl _)); obtain ⟨o2, s2, n2, A2, m2, k2, B2, j2, l2, rfl⟩ := hx.shape; clear hx; have PW2 := Lib.hid (HP2.out.under ((Below.refl _ _).alloc (Nat.le_refl _) (.cells #[.int .i64 o2, .string s2, .int .i64 n2, .slice A2 m2 k2, .slice B2 j2 l2, .string ⟨#[]⟩] 118))); have KK2 := Lib.hid (HK2.out.alloc (.cells #[.int .i64 o2, .string s2, .int .i64 n2, .slice A2 m2 k2, .slice B2 j2 l2, .string ⟨#[]⟩] 118)); have ZW2 := Lib.hid (alloc_below (o := (.cells #[.int .i64 o2, .string s2, .int .i64 n2, .slice A2 m2 k2, .slice B2 j2 l2, .string ⟨#[]⟩] 118)) HZ2.out); have CW2 := Lib.hid (heap_alloc_new V2 (.cells #[.int .i64 o2, .string s2, .int .i64 n2, .slice A2 m2 k2, .slice B2 j2 l2, .string ⟨#[]⟩] 118)); clear hq2 hp7 hk7 h2)
    | (go_at_call 82; rcases bindP_some HQ2.out with ⟨f, hf, rfl⟩ | ⟨x3, ts3, h3, hq3⟩
       · (with_reducible refine (want_then N G o _ _ hf _ PW2.out).mono ?_); rintro e w7 ⟨rfl, hk7⟩; exact ⟨rfl, rfl, KK2.out.trans hk7⟩
       (with_reducible refine (want_then N G o _ _ h3 _ PW2.out).mono ?_); rintro e w7 ⟨v3, rfl, hr7, hp7, hk7⟩; obtain ⟨V3, rfl⟩ : ∃ W, W = w7 := ⟨_, rfl⟩; have HQ3 := Lib.hid hq3; have HP3 := Lib.hid hp7; have HK3 := Lib.hid (KK2.out.trans hk7); have HJ3 := Lib.hid hk7; have q3 : V2.heap.size + 1 ≤ V3.heap.size := (by have := hk7.size; simpa using this); have HZ3 := Lib.hid (hk7.cells ZW2.out (by omega)); have HC3 := Lib.hid (hk7.cells CW2.out (by omega)); cases hr7; clear hq3 hp7 hk7 h3)
    | (go_at_call 85; rcases bindP_some HQ3.out with ⟨f, hf, rfl⟩ | ⟨x4, ts4, h4, hq4⟩
       · (with_reducible refine (con_any N G o _ _ hf _ HP3.out).mono ?_); rintro e w7 ⟨rfl, hk7⟩; exact ⟨rfl, rfl, HK3.out.trans hk7⟩
       (with_reducible refine (con_any N G o _ _ h4 _ HP3.out).mono ?_); rintro e w7 ⟨v4, rfl, hr7, hp7, hk7⟩; obtain ⟨V4, rfl⟩ : ∃ W, W = w7 := ⟨_, rfl⟩; have HQ4 := Lib.hid hq4; have HP4 := Lib.hid hp7; have HK4 := Lib.hid (HK3.out.trans hk7); have HJ4 := Lib.hid hk7; have q4 : V3.heap.size ≤ V4.heap.size := hk7.size; have HZ4 := Lib.hid (hk7.cells HZ3.out (by omega)); have HC4 := Lib.hid (hk7.cells HC3.out (by omega)); obtain ⟨rfl, hx⟩ := hr7; have HX4 := Lib.hid hx; clear hx; have KW4 := Lib.hid ((KeptN.refl V2.heap.size V4).setCell (a := ⟨V2.heap.size, 5, none⟩) rfl (.string (str x4))); have PW4 := Lib.hid (HP4.out.keptM KW4.out (by omega) (by omega)); have ZW4 := Lib.hid (KW4.out.cells HZ4.out (by omega)); have KK4 := Lib.hid (HK4.out.thenM KW4.out (by omega)); have CW4 := Lib.hid ((heap_setCell_same _ _ 5 _ _ (.string (str x4)) HC4.out)); obtain ⟨c4_0, c4_1, c4_2, c4_3, c4_4, c4_5⟩ := row6 HC4.out; have g4_5 := row_frozen HC4.out 5; clear hq4 hp7 hk7 h4)
    | (go_at_call 82; rcases bindP_some HQ4.out with ⟨f, hf, rfl⟩ | ⟨x5, ts5, h5, hq5⟩
       · (with_reducible refine (want_semi N G o _ _ hf _ PW4.out).mono ?_); rintro e w7 ⟨rfl, hk7⟩; exact ⟨rfl, rfl, KK4.out.trans hk7⟩
       (with_reducible refine (want_semi N G o _ _ h5 _ PW4.out).mono ?_); rintro e w7 ⟨v5, rfl, hr7, hp7, hk7⟩; obtain ⟨V5, rfl⟩ : ∃ W, W = w7 := ⟨_, rfl⟩; have HQ5 := Lib.hid hq5; have HP5 := Lib.hid hp7; have HK5 := Lib.hid (KK4.out.trans hk7); have HJ5 := Lib.hid hk7; have q5 : V4.heap.size ≤ V5.heap.size := Nat.le_trans KW4.out.size hk7.size; have HZ5 := Lib.hid (hk7.cells ZW4.out (by omega)); have HC5 := Lib.hid (hk7.cells CW4.out (by omega)); cases hr7; cases HQ5.out; obtain ⟨r0, r1, r2, r3, r4, r5⟩ := row6 HZ5.out; have f0 := row_frozen HZ5.out 0; have f1 := row_frozen HZ5.out 1; have f2 := row_frozen HZ5.out 2; have f3 := row_frozen HZ5.out 3; have f4 := row_frozen HZ5.out 4; have f5 := row_frozen HZ5.out 5; obtain ⟨d0, d1, d2, d3, d4, d5⟩ := row6 HC5.out; clear hq5 hp7 hk7 h5))
  have KF := (((((((KeptN.refl w.heap.size V5).setCell (a := ⟨w.heap.size, 0, none⟩) rfl (.int .i64 o2)).setCell (a := ⟨w.heap.size, 1, none⟩) rfl (.string s2)).setCell (a := ⟨w.heap.size, 2, none⟩) rfl (.int .i64 n2)).setCell (a := ⟨w.heap.size, 3, none⟩) rfl (.slice A2 m2 k2)).setCell (a := ⟨w.heap.size, 4, none⟩) rfl (.slice B2 j2 l2)).setCell (a := ⟨w.heap.size, 5, none⟩) rfl (.string (str x4))); exact bodyPost_ret (way_results rfl (set_row6 _ _ _ _ _ _ HZ5.out)) rfl ⟨_, rfl, ⟨_, rfl, ⟨_, rfl, (ExAt.lift HX2.out (((((((Same.refl (V1.heap.size) V2).alloc _).kk HJ3.out (by omega)).kk HJ4.out (by omega)).kk KW4.out (by omega)).kk HJ5.out (by omega)).kk KF (by omega)) (by omega)), HX4.out⟩⟩, HP5.out.keptM KF (by omega) (by omega), HK5.out.thenM KF (Nat.le_refl _)⟩
end Go.Proofs.YtlhmdjhfmhkllaaGreatDoor
