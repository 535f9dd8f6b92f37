/-
  slices.Grow and slices.Concat of clocks; then, on: a clock with a path behind it.
-/
import Derived.Test.YtmceablhndldiaaGreatDoorClkSam
import Derived.Test.YtmceablhndldiaaGreatDoorClkGrow
namespace Go.Proofs.YtmceablhndldiaaGreatDoor
open Go.RowKit

def zeroSm : Value := .agg #[.string ⟨#[]⟩, .string ⟨#[]⟩]
theorem smp_info : (Tryz.prog.info? 40).map (fun i => (i.zero, i.size, i.bytes)) = some (some zeroSm, 2, 32) := by kernel_rfl
theorem smp_len : ∀ L s, SmpC L s → L.length = 2 := fun L s h => by rw [h.1]; rfl
theorem smp_one : ∀ L s, SmpC L s → ∀ u ∈ L, u.oneCell' = true := fun L s h u hu => by
  rw [h.1] at hu
  simp only [List.mem_cons, List.not_mem_nil, or_false] at hu
  rcases hu with rfl | rfl <;> rfl
theorem append_smps {ops : Array Oper} {rest : List Oper} {o : Oper} {a : Act} {W : World} {Q : Exit → Act → World → Prop} {B : Nat} {v : Value} {xs ys : Clk} {A : Option Addr} {n c : Nat} (hg : o.guard = none) (s x : Operand)
    (hop : o.op = .call { callee := .builtin .append, args := #[s, x], argTypes := #[33, 33] })
    (hs : a.eval s = v) (hx : a.eval x = .slice A n c) (hO : OwnG SmpC B 40 2 W v xs) (hS : SliceAt W SmpC (.slice A n c) ys) (hl : xs.length + ys.length ≤ 4194304) (hB : B ≤ W.heap.size)
    (h : ∀ v' w', OwnG SmpC B 40 2 w' v' (xs ++ ys) → Below B W w' → wpList Tryz.prog ops Q rest (a.put o.dst v') w') : wpList Tryz.prog ops Q (o :: rest) a W :=
  wpList_plain hg fun _ hK' => wp_ownG s x hop Tryz.underlying33 smp_info rfl (by decide) (by decide) smp_len smp_one hs hx hO hS hl hB fun v' w' h1 _ h3 => hK' _ _ (h v' w' h1 h3)
/-- a row of the call's own -/
def OwnC (l : Clk) (w : World) (e : Ending) (w' : World) : Prop := ∃ v, e = .returned v ∧ OwnG SmpC w.heap.size 40 2 w' v l ∧ Below w.heap.size w w'
theorem growC_zero (w : World) : Calls Tryz.prog 193 #[.slice none 0 0, .int .i64 0] w (OwnC [] w) :=
  (Any8.slices_Grow_room Tryz.growC none 0 0 0 w (by omega) (by omega) (by omega) (by omega)).mono fun e w' ⟨h1, h2⟩ => ⟨_, h1, OwnG.nil _, by rw [h2]; exact Below.refl _ _⟩
theorem growC_some {n : Nat} (h0 : 0 < n) (hn : n ≤ 4194304) (w : World) : Calls Tryz.prog 193 #[.slice none 0 0, .int .i64 n] w (OwnC [] w) := by
  obtain ⟨i0, hi, hz0, hz1, hz2⟩ := info_parts smp_info
  refine (Any8.slices_Grow_grow Tryz.growC i0 zeroSm hi hz0 (by omega) none 0 0 n [] w (by omega) (by omega) (by rw [hz2]; omega) (by omega) (by simp) (by simp) (by simp)).mono fun e w' ⟨h1, h2⟩ => ⟨_, h1, ?_, ?_⟩
  · have ht : Tryz.growC_ren.t 25 = 40 := rfl
    rw [ht] at h2 ⊢
    have hge := grownCap_ge w (0 + n) 0 40
    have hcm : grownCap w (0 + n) 0 40 ≤ maxLen := grownCap_le_maxLen w _ _ _ (by unfold maxLen; omega)
    rw [h2]
    refine ⟨[], ⟨rfl, .inr ⟨w.heap.size, _, _, rfl, Nat.le_refl _, heap_alloc_new w.drew _, Nat.zero_le _, hcm, ?_, by simp⟩⟩, rfl, by simp, fun i L x h => by simp at h⟩
    simp [Builtin.zeroCells, Value.cells, zeroSm] at hge ⊢
    omega
  · rw [h2]
    exact (Below.refl _ w).drew.alloc (Nat.le_refl _) _

theorem growC_any {n : Nat} (hn : n ≤ 4194304) (w : World) : Calls Tryz.prog 193 #[.slice none 0 0, .int .i64 n] w (OwnC [] w) := by
  cases n with
  | zero => exact growC_zero w
  | succ n => exact growC_some (by omega) hn w
/-- a slice of slices of strings -/
def ClksAt (w : World) (v : Value) (ls : List Clk) : Prop := SliceAt w (fun L l => ∃ x, L = [x] ∧ ClkAt w x l) v ls
theorem flatten_snoc {X : Type} {ls : List (List X)} {k : Nat} {x : List X} (h : ls[k]? = some x) : (ls.take (k + 1)).flatten = (ls.take k).flatten ++ x := by
  rw [take_snoc h]; simp
theorem flatten_le {X : Type} (ls : List (List X)) (k : Nat) : (ls.take k).flatten.length ≤ ls.flatten.length := by
  have h : ls.flatten = (ls.take k).flatten ++ (ls.drop k).flatten := by rw [← List.flatten_append, List.take_append_drop]
  rw [h, List.length_append]; omega
set_option maxHeartbeats 4000000 in
set_option maxRecDepth 100000 in
theorem concatC_any {w : World} {A : Option Addr} {c : Nat} {ls : List Clk} (h : ClksAt w (.slice A ls.length c) ls) (hlen : ls.flatten.length ≤ 2097152) :
    Calls Tryz.prog 159 #[.slice A ls.length c] w (OwnC ls.flatten w) := by
  obtain ⟨A', c', e, hc, hm, he⟩ := h
  injection e with e1 e2 e3
  subst e1 e3
  have hll : ls.length ≤ 9223372036854775807 := by have h : ls.length ≤ c := hc; unfold maxLen at hm; omega
  have HE := Lib.hid he
  clear hc hm he e2
  go_enter Tryz.func159, Tryz.ntmps159
  go_wp2_with fail
  go_loopg [3, 11] ls.length (fun g n i wr => ∃ k : Nat, k + g = ls.length ∧ i = .int .i64 k ∧ n = .int .i64 ((ls.take k).flatten.length : Nat) ∧ wr = w)
  case atStart => exact ⟨0, by omega, rfl, rfl, rfl⟩
  case round =>
    obtain ⟨k, hkg, rfl, rfl, rfl⟩ := hrel
    have HK := Lib.hid hkg
    have hkl : k ≤ ls.length := by omega
    clear hkg
    by_cases hlt : k < ls.length
    · obtain ⟨l, hl⟩ : ∃ l, ls[k]? = some l := ⟨_, List.getElem?_eq_getElem hlt⟩
      have HT := Lib.hid (flatten_snoc hl)
      have hlen1 : (ls.take k).flatten.length + l.length ≤ 2097152 := by
        have h1 := flatten_le ls (k + 1)
        rw [flatten_snoc hl, List.length_append] at h1
        omega
      obtain ⟨L, hE, x, rfl, hx⟩ := HE.out k l hl
      obtain ⟨xA, xc, rfl, _⟩ := hx
      obtain ⟨a, rfl, _, _, q0⟩ := elem1 hE
      simp only [Nat.mul_one] at q0
      generalize hN : (ls.take k).flatten.length = N at *
      clear hE hl
      have hN0 : ¬ ((N : Int) + (l.length : Int) < 0) := by omega
      go_wp2_with fail
      go_roundg (ls.length - (k + 1))
      case measure => have := HK.out; omega
      case rel => exact ⟨k + 1, by omega, by go_num, by rw [HT.out, List.length_append, hN]; go_num, rfl⟩
    · have hke : k = ls.length := by omega
      subst hke
      obtain ⟨V, rfl⟩ : ∃ W, W = wr := ⟨_, rfl⟩
      have HG := Lib.hid (growC_any (n := ls.flatten.length) (by omega) V)
      rw [List.take_length]
      generalize hN : ls.flatten.length = N at *
      clear hlt hkl
      go_wp2_with (go_at_call 193; (with_reducible refine HG.out.mono ?_); rintro e w1 ⟨v1, rfl, ho, hb⟩; have HO := Lib.hid ho; have HB := Lib.hid hb; clear ho hb)
      have hbw := HB.out.size
      go_loopg [6, 27] ls.length (fun g v i wq => ∃ k : Nat, k + g = ls.length ∧ i = .int .i64 k ∧ OwnG SmpC V.heap.size 40 2 wq v (ls.take k).flatten ∧ Below V.heap.size V wq)
      case atStart => exact ⟨0, by omega, rfl, by simpa using HO.out, HB.out⟩
      case round =>
        obtain ⟨wq, rfl⟩ : ∃ W, W = wr := ⟨_, rfl⟩
        obtain ⟨k, hkg, rfl, ho, hb⟩ := hrel
        have HK := Lib.hid hkg
        have HO2 := Lib.hid ho
        have HB2 := Lib.hid hb
        have hsz2 := hb.size
        have hkl : k ≤ ls.length := by omega
        clear hkg ho hb
        by_cases hlt : k < ls.length
        · obtain ⟨l, hl⟩ : ∃ l, ls[k]? = some l := ⟨_, List.getElem?_eq_getElem hlt⟩
          have HT := Lib.hid (flatten_snoc hl)
          have hlen1 : (ls.take k).flatten.length + l.length ≤ 4194304 := by
            have h1 := flatten_le ls (k + 1)
            rw [flatten_snoc hl, List.length_append] at h1
            omega
          obtain ⟨L, hE, x, rfl, hx⟩ := HE.out k l hl
          have HX := Lib.hid (hx.under HB2.out)
          obtain ⟨xA, xc, rfl, _⟩ := hx
          obtain ⟨a, rfl, _, _, q0⟩ := elem1 (hE.under HB2.out)
          simp only [Nat.mul_one] at q0
          clear hE hl
          go_wp2_with (at_builtin; refine append_smps rfl _ _ rfl rfl rfl HO2.out HX.out hlen1 hsz2 ?_; (intro v5 w5 ho5 hb5; have HO5 := Lib.hid ho5; have HB5 := Lib.hid (HB2.out.trans hb5); clear ho5 hb5))
          go_roundg (ls.length - (k + 1))
          case measure => have := HK.out; omega
          case rel => exact ⟨k + 1, by omega, by go_num, by rw [HT.out]; exact HO5.out, HB5.out⟩
        · have hke : k = ls.length := by omega
          have HOe := Lib.hid (show OwnG SmpC V.heap.size 40 2 _ _ ls.flatten by have := HO2.out; rwa [hke, List.take_length] at this)
          clear hke
          go_wp2_with fail
          go_ret
          exact ⟨_, rfl, HOe.out, HB2.out⟩
theorem OwnG.newG {X : Type} {R : List Value → X → Prop} {B : Nat} {T : TypeId} {n : Nat} {w : World} {v : Value} {xs : List X} (h : OwnG R B T n w v xs) : SliceAt (newW B w) R v xs := by
  obtain ⟨A, c, hv, h1, h2, h3⟩ := h.at_
  subst hv
  refine ⟨A, c, rfl, h1, h2, fun i x hx => ?_⟩
  obtain ⟨L, ⟨a, ha, hc⟩, hL⟩ := h3 i x hx
  refine ⟨L, ⟨a, ha, fun j u hu => ?_⟩, hL⟩
  obtain ⟨Ls, h4, _⟩ := h
  have hb : B ≤ a.block := by
    rcases h4.2 with ⟨h5, _⟩ | ⟨g, cap, cur, h5, hg, _⟩
    · rw [ha] at h5; cases h5
    · rw [ha] at h5; cases h5; exact hg
  rw [new_mk (by rw [add_block, add_block]; exact hb)]
  exact hc j u hu
set_option maxRecDepth 100000 in
set_option maxHeartbeats 2000000 in
theorem then_any {w0 w : World} {A B : Option Addr} {n c m d : Nat} {p q : Clk} (hp : ClkAt w0 (.slice A n c) p) (hq : ClkAt w (.slice B m d) q) (hb : Below w0.heap.size w0 w) (hl : p.length + q.length ≤ 2097152) :
    Calls Tryz.prog 118 #[.agg #[.int .i64 0, .slice A n c], .slice B m d] w (fun e w' => (∃ C k, e = .returned (.agg #[.int .i64 0, .slice C (p.length + q.length) k]) ∧ ClkAt (newW w.heap.size w') (.slice C (p.length + q.length) k) (p ++ q)) ∧ Below w.heap.size w w') := by
  have HP := Lib.hid (hp.under hb)
  have HQ := Lib.hid hq
  have b2 := ((Below.refl w.heap.size w).alloc (Nat.le_refl _) (.cells #[.int .i64 0, .slice A n c] 68)).alloc (by simp) (.cells #[.int .i64 0, .slice none 0 0] 68)
  have b3 := b2.alloc b2.size (.cells #[.slice A n c, .slice B m d] 33)
  have HB3 := Lib.hid b3
  have LS := Lib.hid (show ClksAt ((((w.alloc (.cells #[.int .i64 0, .slice A n c] 68)).alloc (.cells #[.int .i64 0, .slice none 0 0] 68)).alloc (.cells #[.slice A n c, .slice B m d] 33)).drew) (.slice (some ⟨w.heap.size + 1 + 1, 0, none⟩) [p, q].length 2) [p, q] from
    made2 (L := [.slice A n c]) (M := [.slice B m d]) (alloc_at (w := (w.alloc (.cells #[.int .i64 0, .slice A n c] 68)).alloc (.cells #[.int .i64 0, .slice none 0 0] 68)) (by simp)) ⟨_, rfl, HP.out.under b3.drew⟩ ⟨_, rfl, HQ.out.under b3.drew⟩ rfl rfl)
  have N2 := Lib.hid (heap_alloc_keep (o := .cells #[.int .i64 0, .slice none 0 0] 68) (heap_alloc_new w (.cells #[.int .i64 0, .slice A n c] 68)))
  have N3 := Lib.hid (heap_alloc_keep (o := .cells #[.slice A n c, .slice B m d] 33) N2.out)
  have M3 := Lib.hid (heap_alloc_keep (o := .cells #[.slice A n c, .slice B m d] 33) (alloc_at (w := w.alloc (.cells #[.int .i64 0, .slice A n c] 68)) (o := .cells #[.int .i64 0, .slice none 0 0] 68) (n := w.heap.size + 1) (by simp)))
  obtain ⟨p0, p1⟩ := row2c N2.out
  have CC := Lib.hid (show Calls Tryz.prog 159 #[.slice (some ⟨w.heap.size + 1 + 1, 0, none⟩) 2 2] ((((w.alloc (.cells #[.int .i64 0, .slice A n c] 68)).alloc (.cells #[.int .i64 0, .slice none 0 0] 68)).alloc (.cells #[.slice A n c, .slice B m d] 33)).drew) (OwnC (p ++ q) ((((w.alloc (.cells #[.int .i64 0, .slice A n c] 68)).alloc (.cells #[.int .i64 0, .slice none 0 0] 68)).alloc (.cells #[.slice A n c, .slice B m d] 33)).drew)) from by
    have h := concatC_any LS.out (by simpa using hl)
    have e : [p, q].flatten = p ++ q := by simp
    rw [e] at h
    exact h)
  clear hp hq hb b2 b3
  go_enter Tryz.func118, Tryz.ntmps118
  go_wp2_with fail
  refine wp_region_held_drew (S := (fun W => W.cell? ⟨w.heap.size, 0, none⟩ = some (.int .i64 0) ∧ W.cell? ⟨w.heap.size, 1, none⟩ = some (.slice A n c))) (by kernel_rfl) ?_ (fun hHeld => ?_)
  · (try dsimp only); go_keep
  refine take_now 0 rfl ?_
  try simp only [Act.put, setA, setZ, setS]
  refine take_now 1 rfl ?_
  try simp only [Act.put, setA, setZ, setS]
  refine take_now 2 rfl ?_
  try simp only [Act.put, setA, setZ, setS]
  refine take_now 3 rfl ?_
  try simp only [Act.put, setA, setZ, setS]
  refine take_now 4 rfl ?_
  try simp only [Act.put, setA, setZ, setS]
  refine only_at 5 (by kernel_rfl) rfl (fun K hK => ?_)
  go_simp
  refine hK.out _ _ ?_ (fun hHeld => ?_)
  · (try dsimp only); go_keep
  clear hK K
  try simp only [Act.put, setA, setZ, setS]
  refine only_at 6 (by kernel_rfl) rfl (fun K hK => ?_)
  go_simp
  (go_at_call 159
   (with_reducible refine CC.out.mono ?_)
   rintro e w1 ⟨v1, rfl, ho1, hb1⟩
   obtain ⟨C, k1, k2, rfl, rfl⟩ := ho1.shape
   obtain ⟨V1, rfl⟩ : ∃ W, W = w1 := ⟨_, rfl⟩
   have N4 := Lib.hid (box_next hb1 N3.out)
   have M4 := Lib.hid (box_next hb1 M3.out)
   have HO := Lib.hid (((ho1.set (a := ⟨w.heap.size + 1, 0, none⟩) (by simp [World.drew]) (.int .i64 0)).set (a := ⟨w.heap.size + 1, 1, none⟩) (by simp [World.drew]) (.slice C (p ++ q).length k2)).newG)
   have HB1 := Lib.hid (HB3.out.drew.trans (hb1.mono HB3.out.size))
   obtain ⟨a0, a1⟩ := row2c N4.out
   have f0 := row_frz M4.out 0
   have f1 := row_frz M4.out 1
   obtain ⟨b0, b1⟩ := row2c M4.out
   clear ho1 hb1)
  refine hK.out _ _ ?_ (fun hHeld => ?_)
  · (try dsimp only); go_keep
  clear hK K
  try simp only [Act.put, setA, setZ, setS]
  refine take_now 7 rfl ?_
  try simp only [Act.put, setA, setZ, setS]
  refine only_at 8 (by kernel_rfl) rfl (fun K hK => ?_)
  go_simp
  have hne : w.heap.size ≠ w.heap.size + 1 := by omega
  have NS := Lib.hid ((heap_set2 hne (w := V1) (.int .i64 0) (.slice C (p.length + q.length) k2)).trans N4.out)
  obtain ⟨c0, c1⟩ := row2c NS.out
  refine hK.out _ _ ⟨c0, c1⟩ (fun hHeld => ?_)
  clear hK K
  try simp only [Act.put, setA, setZ, setS]
  refine wpAnyH_done (by kernel_rfl) ?_ _
  go_wp2_with fail
  have HO' := HO.out.sub (new_mono (B' := w.heap.size) (by simp [World.drew]; omega) _) fun _ _ h => h
  rw [List.length_append] at HO'
  exact bodyPost_ret (clk_results Tryz.results118 rfl (set_row2 _ _ M4.out)) rfl ⟨⟨_, _, rfl, HO'⟩, below_set2 HB1.out (by omega) _ _⟩
set_option maxRecDepth 100000 in
set_option maxHeartbeats 2000000 in
theorem on_any {w0 w : World} {A : Option Addr} {n c : Nat} {p : Clk} {x con : Tx} (hp : ClkAt w0 (.slice A n c) p) (hx : x.length ≤ maxLen) (hcon : con.length ≤ maxLen) (hb : Below w0.heap.size w0 w) (hl : p.length + 1 ≤ 2097152) :
    Calls Tryz.prog 74 #[.agg #[.int .i64 0, .slice A n c], .string (str x), .string (str con)] w (fun e w' => (∃ C k, e = .returned (.agg #[.int .i64 0, .slice C (p.length + 1) k]) ∧ ClkAt (newW w.heap.size w') (.slice C (p.length + 1) k) (p ++ [(x, con)])) ∧ Below w.heap.size w w') := by
  have b2 := ((Below.refl w.heap.size w).alloc (Nat.le_refl _) (.cells #[.int .i64 0, .slice A n c] 68)).alloc (by simp) (.cells #[.int .i64 0, .slice none 0 0] 68)
  have b3 := b2.alloc b2.size (.cells #[.string (str x), .string (str con)] 40)
  have HB3 := Lib.hid b3
  have HP := Lib.hid hp
  have CC := Lib.hid (then_any (w0 := w0) (q := [(x, con)]) hp (made1 (R := SmpC) (L := [.string (str x), .string (str con)]) (alloc_at (w := (w.alloc (.cells #[.int .i64 0, .slice A n c] 68)).alloc (.cells #[.int .i64 0, .slice none 0 0] 68)) (o := .cells #[.string (str x), .string (str con)] 40) (n := w.heap.size + 1 + 1) (by simp)) ⟨rfl, hx, hcon⟩ rfl) (hb.trans (b3.mono hb.size)) hl)
  have M3 := Lib.hid (heap_alloc_keep (o := .cells #[.string (str x), .string (str con)] 40) (alloc_at (w := w.alloc (.cells #[.int .i64 0, .slice A n c] 68)) (o := .cells #[.int .i64 0, .slice none 0 0] 68) (n := w.heap.size + 1) (by simp)))
  clear hp hb b2 b3
  go_enter Tryz.func74, Tryz.ntmps74
  go_wp2_with (first
    | (go_at_call 118
       (with_reducible refine CC.out.mono ?_)
       rintro e w1 ⟨⟨C, k, rfl, hc⟩, hb1⟩
       obtain ⟨V1, rfl⟩ : ∃ W, W = w1 := ⟨_, rfl⟩
       have M4 := Lib.hid (box_next hb1 M3.out)
       have HB1 := Lib.hid (HB3.out.trans (hb1.mono HB3.out.size))
       have HC := Lib.hid hc
       have f0 := row_frz M4.out 0
       have f1 := row_frz M4.out 1
       obtain ⟨b0, b1⟩ := row2c M4.out
       clear hc hb1))
  have hsm : Same _ V1 _ := ((Same.refl (((w.alloc (.cells #[.int .i64 0, .slice A n c] 68)).alloc (.cells #[.int .i64 0, .slice none 0 0] 68)).alloc (.cells #[.string (str x), .string (str con)] 40)).heap.size V1).set (a := ⟨w.heap.size + 1, 0, none⟩) (.inl (by simp)) (.int .i64 0)).set (a := ⟨w.heap.size + 1, 1, none⟩) (.inl (by simp)) (.slice C (p.length + 1) k)
  exact bodyPost_ret (clk_results Tryz.results74 rfl (set_row2 _ _ M4.out)) rfl ⟨⟨_, _, rfl, HC.out.sub (Sub.trans (Same.sub hsm) (new_mono (by simp; omega) _)) fun _ _ h => h⟩, below_set2 HB1.out (by omega) _ _⟩
end Go.Proofs.YtmceablhndldiaaGreatDoor
