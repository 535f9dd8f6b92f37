/-
  Texts joined.
-/
import Derived.Test.YtoajfnfhphoaeaaGreatDoorKc12
namespace Go.Proofs.YtoajfnfhphoaeaaGreatDoor
theorem dNs_bound {B : Nat} : ∀ {l : List Ex}, (∀ k ∈ l, dN k ≤ B) → dNs l ≤ B
  | [], _ => by rw [dNs]; omega
  | k :: r, h => by
    have h1 := h k (by simp)
    have h2 := dNs_bound (l := r) fun y hy => h y (by simp [hy])
    rw [dNs]; omega
theorem sep_mem {s : Tx} {t : List Tx} : ∀ {T : List (List Tx)}, t ∈ T → t.length ≤ (sepT s T).length
  | x :: r, h => by
    rw [sepT, List.length_append]
    rcases List.mem_cons.1 h with rfl | h
    · omega
    · have := flat_mem (T := fun y => s :: y) h
      simp only [List.length_cons] at this
      omega
theorem zip_mem {k : Ex} : ∀ {cs : List Tx} {ks : List Ex}, ks.length = cs.length → k ∈ ks → ∃ c, (c, k) ∈ cs.zip ks
  | [], [], _, h => by cases h
  | [], _ :: _, hl, _ => by simp at hl
  | _ :: _, [], _, h => by cases h
  | c :: cs, x :: ks, hl, h => by
    rw [List.zip_cons_cons]
    rcases List.mem_cons.1 h with rfl | h
    · exact ⟨c, by simp⟩
    · obtain ⟨d, hd⟩ := zip_mem (cs := cs) (ks := ks) (by simpa using hl) h
      exact ⟨d, by simp [hd]⟩
theorem arms_mem {cs : List Tx} {ks : List Ex} {k : Ex} (hl : ks.length = cs.length) (h : k ∈ ks) : (toksX k).length ≤ (sepT [124] (armsT cs (ks.map toksX))).length := by
  obtain ⟨c, hc⟩ := zip_mem hl h; rw [arms_zip]; have := sep_mem (s := [124]) (T := (cs.zip ks).map fun y => y.1 :: arrowT :: toksX y.2) (List.mem_map.2 ⟨_, hc, rfl⟩); simp only [List.length_cons] at this; omega
theorem good_deep {x : Ex} (h : Good x) : dN x ≤ (toksX x).length := by
  induction h with
  | int n h0 h1 => simp [dN, dNs, toksX, toksOf]
  | bool n h => simp [dN, dNs, toksX, toksOf]
  | con c h => simp [dN, dNs, toksX, toksOf]
  | var c h => simp [dN, dNs, toksX, toksOf]
  | un o h k hk ih => simp [dN, dNs, toksX, toksXs, toksOf, prefixT, kidT]; omega
  | bin o h a b ha hb i1 i2 => simp [dN, dNs, toksX, toksXs, toksOf, infixT, kidT]; omega
  | choice a b c ha hb hc i1 i2 i3 => simp [dN, dNs, toksX, toksXs, toksOf, choiceT, kidT]; omega
  | fby a b ha hb i1 i2 => simp [dN, dNs, toksX, toksXs, toksOf, infixT, kidT]; omega
  | pre k hk ih => simp [dN, dNs, toksX, toksXs, toksOf, prefixT, kidT]; omega
  | arrow a b ha hb i1 i2 => simp [dN, dNs, toksX, toksXs, toksOf, infixT, kidT]; omega
  | sample x c hx hc k hk ih => simp [dN, dNs, toksX, toksXs, toksOf, whenT, kidT]; omega
  | merge x cs ks hx h0 hc hl hk ih =>
    have h1 : dNs ks ≤ (sepT [124] (armsT cs (ks.map toksX))).length := dNs_bound fun k hk => Nat.le_trans (ih k hk) (arms_mem hl hk); rw [dN, toksX_mk, show toksOf 12 x 0 cs (ks.map toksX) = armT mergeT x cs (ks.map toksX) by simp [toksOf], armT]; simp only [List.length_cons, List.length_append]; omega
  | mtch x cs ks hx h0 hc hl hk ih =>
    have h1 : dNs ks ≤ (sepT [124] (armsT cs (ks.map toksX))).length := dNs_bound fun k hk => Nat.le_trans (ih k hk) (arms_mem hl hk); rw [dN, toksX_mk, show toksOf 13 x 0 cs (ks.map toksX) = armT matchT x cs (ks.map toksX) by simp [toksOf], armT]; simp only [List.length_cons, List.length_append]; omega
  | call x cs ks hx h0 hc hk ih =>
    have h1 : dNs ks ≤ (sepT [44] (ks.map toksX)).length := dNs_bound fun k hk => Nat.le_trans (ih k hk) (sep_mem (List.mem_map.2 ⟨k, hk, rfl⟩)); rw [dN, toksX_mk, show toksOf 14 x 0 cs (ks.map toksX) = callT x cs (ks.map toksX) by simp [toksOf], callT]; simp only [List.length_cons, List.length_append]; omega
  | every x cs ks b ha hb i1 i2 =>
    rw [every_len]; simp only [List.length_cons, List.length_append, dN, dNs] at i1 i2 ⊢; omega
theorem eq_mem (q : QEq) : (toksX q.e).length ≤ (eqT q).length := by
  unfold eqT; split <;> simp <;> omega
theorem st_mem {s : QState} {x : Ex} (h : x ∈ stXs s) : (toksX x).length ≤ (stateT s).length := by
  simp only [stateT, List.length_cons, List.length_append]; rcases List.mem_append.1 h with h | h
  · obtain ⟨q, hq, rfl⟩ := List.mem_map.1 h; have h1 := flat_mem (T := eqT) hq; have h2 := eq_mem q; omega
  · obtain ⟨y, hy, rfl⟩ := List.mem_map.1 h; have h1 := flat_mem (T := wayT) hy; have h2 : (toksX y.cond).length ≤ (wayT y).length := (by simp [wayT]; omega); omega
theorem pg_mem {p : QProg} {x : Ex} (h : x ∈ pgXs p) : (toksX x).length ≤ (progT p).length := by
  obtain ⟨n, hn, h⟩ := List.mem_flatMap.1 h; obtain ⟨i, hi, h⟩ := List.mem_flatMap.1 h; have h1 := flat_mem (T := nodeT) hn; have h2 := flat_mem (T := itemT) hi; have h3 : (toksX x).length ≤ (itemT i).length := by
    unfold itXs at h; unfold itemT; split at h
    · rename_i h0; rw [if_pos h0]; have : x = i.eq.e := by simpa using h
      rw [this]; exact eq_mem _
    · rename_i h0; rw [if_neg h0]; obtain ⟨s, hs, h⟩ := List.mem_flatMap.1 h; have h4 := flat_mem (T := stateT) hs; have h5 := st_mem h; simp only [List.length_cons, List.length_append]; omega
  have h4 : (n.items.flatMap itemT).length ≤ (nodeT n).length := (by simp only [nodeT, List.length_cons, List.length_append]; omega); rw [progT, List.length_append]; omega
theorem GProg.exs {p : QProg} (h : GProg p) {x : Ex} (hx : x ∈ pgXs p) : GX x := by
  obtain ⟨n, hn, hx⟩ := List.mem_flatMap.1 hx; obtain ⟨i, hi, hx⟩ := List.mem_flatMap.1 hx; have hg := (h.2 n hn).2.2.2.2 i hi; unfold itXs at hx; rcases hg with ⟨h0, hg⟩ | ⟨h0, _, hg⟩
  · rw [if_pos h0] at hx; have : x = i.eq.e := by simpa using hx
    rw [this]; exact hg.2
  · rw [if_neg h0] at hx; obtain ⟨s, hs, hx⟩ := List.mem_flatMap.1 hx; have hgs := hg s hs; rcases List.mem_append.1 hx with hx | hx
    · obtain ⟨q, hq, rfl⟩ := List.mem_map.1 hx; exact (hgs.2.1 q hq).2
    · obtain ⟨y, hy, rfl⟩ := List.mem_map.1 hx; exact (hgs.2.2 y hy).2
theorem got_deep {p : QProg} (h : GProg p) (hl : (progT p).length ≤ 196611) : ∀ x ∈ pgXs p, dN x ≤ 9223372036854775807 := fun x hx => by
  have h1 := good_deep (h.exs hx).1
  have h2 := pg_mem hx
  omega
end Go.Proofs.YtoajfnfhphoaeaaGreatDoor
