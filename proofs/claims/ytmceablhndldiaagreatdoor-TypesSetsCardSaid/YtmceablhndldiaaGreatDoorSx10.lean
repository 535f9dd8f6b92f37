/-
  The operations on memory: loads and stores, lists of a length, texts and bytes, maps.
-/
import Derived.Test.YtmceablhndldiaaGreatDoorSx9
namespace Go.Sx
open Go.RowKit

section
variable {α β : Type} {c c' : Nat} {h h' : H} {l : Log}
theorem low_ok {n : Nat} {r : Rs α} {x : α} (e : ifB (Nat.blt n c) r .fail = .ok x c' h' l) : n < c ∧ r = .ok x c' h' l := by
  cases k : Nat.blt n c with
  | false => rw [k] at e; cases e
  | true =>
    rw [k] at e
    rw [blt_dec] at k
    exact ⟨of_decide_eq_true k, e⟩
theorem load1_ok {n off : Nat} {v : AV} (e : load1 n off c h = .ok v c' h' l) : ∃ cs t, h.get n = some (.row cs) ∧ dropN off cs = v :: t ∧ c' = c ∧ h' = h ∧ l = [(n, some off, false)] ∧ n < c := by
  obtain ⟨hlow, e⟩ := low_ok (show ifB (Nat.blt n c) _ .fail = Rs.ok v c' h' l from e)
  have e : ifS .fail (fun cs => ifC .fail (fun v _ => .ok v c h [(n, some off, false)]) (dropN off cs)) (rowOf h n) = Rs.ok v c' h' l := e
  cases k : rowOf h n with
  | none => rw [k] at e; cases e
  | some cs =>
    rw [k] at e
    have e : ifC .fail (fun v _ => .ok v c h [(n, some off, false)]) (dropN off cs) = Rs.ok v c' h' l := e
    cases q : dropN off cs with
    | nil => rw [q] at e; cases e
    | cons a t => rw [q] at e; cases e; exact ⟨cs, t, rowOf_some k, q, rfl, rfl, rfl, hlow⟩
theorem loadR_ok {n off k : Nat} {v : List AV} (e : loadR n off k c h = .ok v c' h' l) : ∃ cs, h.get n = some (.row cs) ∧ takeN k (dropN off cs) = some v ∧ c' = c ∧ h' = h ∧ l = locs false n k off ∧ n < c := by
  obtain ⟨hlow, e⟩ := low_ok (show ifB (Nat.blt n c) _ .fail = Rs.ok v c' h' l from e)
  have e : ifS .fail (fun cs => ifS .fail (fun l => .ok l c h (locs false n k off)) (takeN k (dropN off cs))) (rowOf h n) = Rs.ok v c' h' l := e
  cases q : rowOf h n with
  | none => rw [q] at e; cases e
  | some cs =>
    rw [q] at e
    have e : ifS .fail (fun l => .ok l c h (locs false n k off)) (takeN k (dropN off cs)) = Rs.ok v c' h' l := e
    cases t : takeN k (dropN off cs) with
    | none => rw [t] at e; cases e
    | some r => rw [t] at e; cases e; exact ⟨cs, rowOf_some q, t, rfl, rfl, rfl, hlow⟩
theorem loadN_ok {n off k : Nat} {v : List AV} (e : loadN n off k c h = .ok v c' h' l) : c' = c ∧ h' = h ∧ ((k = 0 ∧ v = []) ∨ ∃ cs, h.get n = some (.row cs) ∧ takeN k (dropN off cs) = some v) := by
  unfold loadN at e
  cases hk : Nat.beq k 0 with
  | true =>
    rw [hk] at e
    obtain ⟨rfl, rfl, rfl, _⟩ := pure_ok (show M.pure [] c h = _ from e)
    exact ⟨rfl, rfl, .inl ⟨Nat.eq_of_beq_eq_true hk, rfl⟩⟩
  | false =>
    rw [hk] at e
    obtain ⟨cs, h1, h2, rfl, rfl, _⟩ := loadR_ok (show loadR n off k c h = _ from e)
    exact ⟨rfl, rfl, .inr ⟨cs, h1, h2⟩⟩
theorem storeR_ok {n off : Nat} {vs : List AV} {u : Unit} (e : storeR n off vs c h = .ok u c' h' l) : ∃ cs r, h.get n = some (.row cs) ∧ putAt vs off cs = some r ∧ scals vs = true ∧ c' = c ∧ h' = h.set n (some (.row r)) ∧ l = locs true n (len vs) off ∧ n < c := by
  obtain ⟨hlow, e⟩ := low_ok (show ifB (Nat.blt n c) _ .fail = Rs.ok u c' h' l from e)
  have e : ifS .fail (fun cs => ifS .fail (fun r => ifB (scals vs) (.ok () c (h.set n (some (.row r))) (locs true n (len vs) off)) .fail) (putAt vs off cs)) (rowOf h n) = Rs.ok u c' h' l := e
  cases q : rowOf h n with
  | none => rw [q] at e; cases e
  | some cs =>
    rw [q] at e
    have e : ifS .fail (fun r => ifB (scals vs) (.ok () c (h.set n (some (.row r))) (locs true n (len vs) off)) .fail) (putAt vs off cs) = Rs.ok u c' h' l := e
    cases t : putAt vs off cs with
    | none => rw [t] at e; cases e
    | some r =>
      rw [t] at e
      have e : ifB (scals vs) (.ok () c (h.set n (some (.row r))) (locs true n (len vs) off)) .fail = Rs.ok u c' h' l := e
      cases s : scals vs with
      | false => rw [s] at e; cases e
      | true => rw [s] at e; cases e; exact ⟨cs, r, rowOf_some q, t, rfl, rfl, rfl, rfl, hlow⟩
theorem storeN_ok {n off : Nat} {vs : List AV} {u : Unit} (e : storeN n off vs c h = .ok u c' h' l) : c' = c ∧ ((vs = [] ∧ h' = h) ∨ ∃ cs r, h.get n = some (.row cs) ∧ putAt vs off cs = some r ∧ scals vs = true ∧ h' = h.set n (some (.row r))) := by
  cases vs with
  | nil =>
    obtain ⟨rfl, rfl, rfl, _⟩ := pure_ok (show M.pure () c h = _ from e)
    exact ⟨rfl, .inl ⟨rfl, rfl⟩⟩
  | cons v vs =>
    obtain ⟨cs, r, h1, h2, h3, rfl, rfl, _⟩ := storeR_ok (show storeR n off (v :: vs) c h = _ from e)
    exact ⟨rfl, .inr ⟨cs, r, h1, h2, h3, rfl⟩⟩
theorem killRow_ok {n off k : Nat} {v : List AV} (e : killRow n off k c h = .ok v c' h' l) : ∃ cs, h.get n = some (.row cs) ∧ takeN k (dropN off cs) = some v ∧ c' = c ∧ h' = h.set n none ∧ l = [(n, none, true)] ∧ n < c := by
  obtain ⟨hlow, e⟩ := low_ok (show ifB (Nat.blt n c) _ .fail = Rs.ok v c' h' l from e)
  have e : ifS .fail (fun cs => ifS .fail (fun l => .ok l c (h.set n none) [(n, none, true)]) (takeN k (dropN off cs))) (rowOf h n) = Rs.ok v c' h' l := e
  cases q : rowOf h n with
  | none => rw [q] at e; cases e
  | some cs =>
    rw [q] at e
    have e : ifS .fail (fun l => .ok l c (h.set n none) [(n, none, true)]) (takeN k (dropN off cs)) = Rs.ok v c' h' l := e
    cases t : takeN k (dropN off cs) with
    | none => rw [t] at e; cases e
    | some r => rw [t] at e; cases e; exact ⟨cs, rowOf_some q, t, rfl, rfl, rfl, hlow⟩
theorem getMap_ok {n : Nat} {r : List (AV × AV × Nat) × Nat} (e : getMap n c h = .ok r c' h' l) : h.get n = some (.mp r.1 r.2) ∧ c' = c ∧ h' = h ∧ l = [(n, none, false)] ∧ n < c := by
  obtain ⟨hlow, e⟩ := low_ok (show ifB (Nat.blt n c) _ .fail = Rs.ok r c' h' l from e)
  have e : ifS .fail (fun r => .ok r c h [(n, none, false)]) (ifS none AO.map? (h.get n)) = Rs.ok r c' h' l := e
  cases q : h.get n with
  | none => rw [q] at e; cases e
  | some o =>
    rw [q] at e
    cases o with
    | row cs => cases e
    | mp es k => cases e; exact ⟨rfl, rfl, rfl, rfl, hlow⟩
theorem setMap_ok {n : Nat} {r : List (AV × AV × Nat) × Nat} {u : Unit} (e : setMap n r c h = .ok u c' h' l) : c' = c ∧ h' = h.set n (some (.mp r.1 r.2)) ∧ l = [(n, none, true)] ∧ n < c ∧ ∃ o, h.get n = some o := by
  obtain ⟨hlow, e⟩ := low_ok (show ifB (Nat.blt n c) _ .fail = Rs.ok u c' h' l from e)
  have e : ifS .fail (fun _ => .ok () c (h.set n (some (.mp r.1 r.2))) [(n, none, true)]) (h.get n) = Rs.ok u c' h' l := e
  cases q : h.get n with
  | none => rw [q] at e; cases e
  | some o => rw [q] at e; cases e; exact ⟨rfl, rfl, rfl, hlow, o, rfl⟩
end
theorem VR.oneCell {ρ : Ren} {a : AV} {v : Value} (h : VR ρ a v) (s : scal a = true) : v.oneCell' = true := by
  cases a with
  | agg l => cases s
  | tuple l => cases s
  | bool b => simp only [VR] at h; subst h; rfl
  | int b n => simp only [VR] at h; subst h; rfl
  | str s => simp only [VR] at h; obtain ⟨_, rfl, _⟩ := h; rfl
  | ptr a => cases a <;> simp only [VR] at h <;> (first | subst h | obtain ⟨_, _, _, rfl⟩ := h) <;> rfl
  | slice a n c z => cases a <;> simp only [VR] at h <;> (first | subst h | obtain ⟨_, _, _, _, _, rfl, _⟩ := h) <;> rfl
  | map a => cases a <;> simp only [VR] at h <;> (first | subst h | obtain ⟨_, _, _, rfl⟩ := h) <;> rfl
  | fn f a c => simp only [VR] at h; obtain ⟨_, _, rfl, _⟩ := h; rfl
  | nilFn => simp only [VR] at h; subst h; rfl
  | iface t x => simp only [VR] at h; obtain ⟨_, rfl, _⟩ := h; rfl
  | nilIface => simp only [VR] at h; subst h; rfl
theorem VRs.oneCell {ρ : Ren} : ∀ {a : List AV} {l : List Value}, VRs ρ a l → scals a = true → ∀ v ∈ l, v.oneCell' = true
  | [], _, h, _, v, hv => by simp only [VRs] at h; subst h; cases hv
  | a :: x, _, h, s, v, hv => by
    simp only [VRs] at h
    obtain ⟨u, r, rfl, h1, h2⟩ := h
    have s : ifB (scal a) (scals x) false = true := s
    cases k : scal a with
    | false => rw [k] at s; cases s
    | true =>
      rw [k] at s
      rcases List.mem_cons.1 hv with rfl | hv
      · exact h1.oneCell k
      · exact VRs.oneCell h2 s v hv
section
variable {P : Program} {o : Oper}
/-- cells of a row, loaded -/
theorem Rel.run_loadN {ρ : Ren} {h : H} {w : World} (r : Rel ρ h w) {n off k : Nat} {cs v : List AV} (e : h.get n = some (.row cs)) (ht : takeN k (dropN off cs) = some v) :
    ∃ b s, ρ n = some (b, s) ∧ ∃ l : List Value, l.length = k ∧ VRs ρ v l ∧ ∀ w' : World, w'.heap = w.heap → (loadCells ⟨b, off, none⟩ k).run P w' = .ok l.toArray w' := by
  obtain ⟨b, s, f, hle, _, hc⟩ := r.cells e
  obtain ⟨rfl, hk⟩ := takeN_eq _ _ _ ht
  rw [dropN_eq] at hk ⊢
  have hlen : ((cs.drop off).take k).length = k := by rw [List.length_take]; omega
  have key : ∀ j, j < k → ∃ u, w.cell? ⟨b, off + j, none⟩ = some u ∧ ∃ x, ((cs.drop off).take k)[j]? = some x ∧ VR ρ x u := fun j hj => by
    have hj' : off + j < cs.length := by rw [List.length_drop] at hk; omega
    obtain ⟨u, h1, h2⟩ := hc (off + j) cs[off + j] (List.getElem?_eq_getElem hj')
    exact ⟨u, h1, _, by rw [List.getElem?_take, if_pos hj, List.getElem?_drop, List.getElem?_eq_getElem hj'], h2⟩
  refine ⟨b, s, f, (List.range k).map fun j => (w.cell? ⟨b, off + j, none⟩).getD undef, by simp, ?_, ?_⟩
  · refine VRs.of_get (by rw [hlen]; simp) fun i x hx => ?_
    have hi : i < k := by
      rcases Nat.lt_or_ge i k with hh | hh
      · exact hh
      · rw [List.getElem?_eq_none (by omega)] at hx; cases hx
    obtain ⟨u, h1, x', h2, h3⟩ := key i hi
    rw [hx] at h2
    cases h2
    exact ⟨u, by simp [hi, h1], h3⟩
  · intro w' hw
    rw [run_loadCells w' ⟨b, off, none⟩ k (fun j => (w.cell? ⟨b, off + j, none⟩).getD undef) fun j hj => by
      obtain ⟨u, h1, _⟩ := key j hj
      rw [addr_add, show w'.cell? ⟨b, off + j, none⟩ = w.cell? ⟨b, off + j, none⟩ by simp [World.cell?, hw], h1]
      rfl]
theorem load1At_ok {ρ : Ren} {h h' : H} {w : World} (r : Rel ρ h w) {c c' : Nat} {v x : AV} {l : Log} (e : load1At v c h = .ok x c' h' l) {u : Value} (hu : VR ρ v u) :
    c' = c ∧ h' = h ∧ ∃ b i y, u = .pointer (some ⟨b, i, none⟩) ∧ w.cell? ⟨b, i, none⟩ = some y ∧ VR ρ x y := by
  obtain ⟨p, rfl, e⟩ := onPtr_ok e
  obtain ⟨p, rfl, e⟩ := ifS_ok e
  obtain ⟨cs, t, h1, h2, rfl, rfl, _⟩ := load1_ok e
  simp only [VR] at hu
  obtain ⟨b, s, h3, rfl⟩ := hu
  obtain ⟨b', s', h4, _, _, hc⟩ := r.cells h1
  rw [h3] at h4
  cases h4
  rw [dropN_eq] at h2
  obtain ⟨y, h5, h6⟩ := hc p.2 x (by simpa [List.head?_drop] using congrArg List.head? h2)
  exact ⟨rfl, rfl, b, p.2, y, rfl, h5, h6⟩
theorem loadNAt_ok {ρ : Ren} {h h' : H} {w : World} (r : Rel ρ h w) {c c' n : Nat} {v x : AV} {l : Log} (e : loadNAt n v c h = .ok x c' h' l) {u : Value} (hu : VR ρ v u) :
    c' = c ∧ h' = h ∧ ∃ a y, u = .pointer (some a) ∧ (loadCells a n).run P w = .ok y w ∧ VR ρ x (.agg y) := by
  obtain ⟨p, rfl, e⟩ := onPtr_ok e
  obtain ⟨p, rfl, e⟩ := ifS_ok e
  obtain ⟨q, e2, rfl⟩ := map_ok e
  obtain ⟨rfl, rfl, hh⟩ := loadN_ok e2
  simp only [VR] at hu
  obtain ⟨b, s, h3, rfl⟩ := hu
  rcases hh with ⟨rfl, rfl⟩ | ⟨cs, h1, h2⟩
  · exact ⟨rfl, rfl, _, #[], rfl, rfl, by simp only [VR]; exact ⟨_, rfl, VRs.nil ρ⟩⟩
  obtain ⟨b', s', h4, y, _, h5, h6⟩ := r.run_loadN (P := P) h1 h2
  rw [h3] at h4
  cases h4
  exact ⟨rfl, rfl, _, _, rfl, h6 w rfl, by simp only [VR]; exact ⟨_, rfl, h5⟩⟩
theorem op_load1 {t : TypeId} {x : Operand} {y : Opd} (ho : o.op = .load t x) (k : cOpd x = some y) (ha : aggO P t = some false) : OpOk P o (oLoad1 y) := by
  refine OpOk.of_run fun call E c h v c' h' l he ρ w a hr hE hf => ?_
  obtain ⟨rfl, rfl, b, i, u, h1, h2, h3⟩ := load1At_ok hr he (cOpd_VR hE k)
  refine ⟨u, ρ, w, ?_, h3, Post.refl hr⟩
  simp only [execOp, ho]
  refine run_val ?_
  simp [Instr.loadAt, h1, Instr.sureAddr, loadVar, run_isAgg ha, h2]
theorem op_loadN {t : TypeId} {n : Nat} {x : Operand} {y : Opd} (ho : o.op = .load t x) (k : cOpd x = some y) (ha : aggO P t = some true) (hn : sizeO P t = some n) : OpOk P o (oLoadN n y) := by
  refine OpOk.of_run fun call E c h v c' h' l he ρ w a hr hE hf => ?_
  obtain ⟨rfl, rfl, b, u, h1, h2, h3⟩ := loadNAt_ok (P := P) hr he (cOpd_VR hE k)
  refine ⟨.agg u, ρ, w, ?_, h3, Post.refl hr⟩
  simp only [execOp, ho]
  refine run_val ?_
  simp [Instr.loadAt, h1, Instr.sureAddr, loadVar, run_isAgg ha, run_size hn, h2]
/-- cells stored into a row -/
theorem Rel.run_store {ρ : Ren} {h h' : H} {w : World} (r : Rel ρ h w) {n off c c' b s : Nat} {vs : List AV} {u : Unit} {g : Log} (e : storeN n off vs c h = .ok u c' h' g) {l : List Value} (hv : VRs ρ vs l) (hb : ρ n = some (b, s)) :
    c' = c ∧ ∃ w', (storeCells ⟨b, off, none⟩ l).run P w = .ok () w' ∧ Post ρ h w c c ρ h' w' := by
  obtain ⟨rfl, hh⟩ := storeN_ok e
  rcases hh with ⟨rfl, rfl⟩ | ⟨cs, q, h1, h2, h3, rfl⟩
  · simp only [VRs] at hv
    subst hv
    exact ⟨rfl, w, rfl, Post.refl r⟩
  obtain ⟨hq, hlen⟩ := putAt_eq _ _ _ _ h2
  obtain ⟨b', s', f, hp⟩ := r.store (c := c') h1 hv hq hlen
  rw [hb] at f
  cases f
  obtain ⟨b', s', f', hle, hok, _⟩ := r.cells h1
  rw [hb] at f'
  cases f'
  have hl := hv.length
  refine ⟨rfl, _, ?_, hp⟩
  have := run_storeCells_cells (P := P) b off l 0 w (fun j hj => (hok _ (by omega)).1) (fun j hj => (hok _ (by omega)).2) (hv.oneCell h3)
  simpa using this
theorem op_store {t : TypeId} {n : Nat} {x z : Operand} {y q : Opd} (ho : o.op = .store t x z) (k : cOpd x = some y) (kz : cOpd z = some q) (hn : sizeO P t = some n) : OpOk P o (oStore n y q) := by
  refine OpOk.of_skip fun call E c h v c' h' l he => ?_
  obtain ⟨hlen, he⟩ := ifB_ok he
  obtain ⟨p, hp, he⟩ := onPtr_ok he
  obtain ⟨p, rfl, he⟩ := ifS_ok he
  obtain ⟨u, he2, rfl⟩ := map_ok he
  refine ⟨rfl, fun ρ w a hr hE hf => ?_⟩
  have hx := cOpd_VR hE k
  have hV := (cOpd_VR hE kz).cells
  rw [hp] at hx
  simp only [VR] at hx
  obtain ⟨b, s, h1, h2⟩ := hx
  obtain ⟨rfl, w', h4, h5⟩ := hr.run_store (P := P) he2 hV h1
  refine ⟨ρ, w', ?_, h5⟩
  have hsz : (a.eval z).cells.size = n := by
    have := hV.length
    rw [Array.length_toList] at this
    rw [this]
    exact Nat.eq_of_beq_eq_true hlen
  simp [execOp, ho, Instr.storeAt, h2, Instr.sureAddr, storeVar, run_size hn, hsz, h4]
end
end Go.Sx
