import Derived.Test.YtkfacdofkfabnaaGreatDoorKm03
import Derived.Test.YtkfacdofkfabnaaGreatDoorKm08
noncomputable section
namespace Go.Proofs.YtkfacdofkfabnaaGreatDoor
open Go.RowKit
section
variable {ρ : Sx.Ren} {h : Sx.H} {w : World}
theorem qO (b : Nat) : ∀ (L : List Sx.AV) (o : Nat), (∀ (j : Nat) x, L[j]? = some x -> ∃ v, w.cell? ⟨b, o + j, none⟩ = some v /\ Sx.VR ρ x v) ->
  ∃ vs, Sx.VRs ρ L vs /\ cr w ⟨b, o, none⟩ vs
 | [], _, _ => ⟨[], Sx.VRs.nil ρ, λ j u hu => by simp at hu⟩
 | x :: L, o, H => by
   obtain ⟨v, h1, h2⟩ := H 0 x rfl
   obtain ⟨vs, h3, h4⟩ := qO b L (o + 1) λ j y hy => by
    have := H (j + 1) y (by simpa using hy)
    rwa [show o + (j + 1) = o + 1 + j by omega] at this
   refine ⟨v :: vs, Sx.VRs.cons h2 h3, λ j u hu => ?_⟩
   rw [Sx.addr_add]
   cases j with
   | zero => simp only [List.getElem?_cons_zero, Option.some.injEq] at hu; subst hu; exact h1
   | succ j =>
     have := h4 j u (by simpa using hu)
     rw [Sx.addr_add] at this
     rwa [show o + (j + 1) = o + 1 + j by omega]
theorem cr.part {a : Addr} {L : List Value} (k : cr w a L) (i n : Nat) : cr w (a.add i) ((L.drop i).take n) := λ j u hu => by
 rw [List.getElem?_take] at hu
 split at hu
 . rw [List.getElem?_drop] at hu
   rw [fU]
   exact k _ u hu
 . cases hu
def l9 (h : Sx.H) (z : Nat) : Sx.AV -> Option (Nat × List Sx.AV)
 | .slice none n c _ => if n = 0 /\ c <= 1048576 then some (0, []) else none
 | .slice (some a) n _ _ => if n = 0 then some (0, []) else match Sx.rowOf h a.1 with
   | some cs => match Sx.takeN (n * z) (Sx.dropN a.2 cs) with
     | some l => some (n, l)
     | none => none
   | none => none
 | _ => none
theorem ly (r : Sx.Rel ρ h w) {z n : Nat} {x : Sx.AV} {v : Value} {L : List Sx.AV} (hv : Sx.VR ρ x v) (e : l9 h z x = some (n, L)) :
  ∃ A k, v = .slice A n k /\ n <= k /\ k <= maxLen /\ L.length = n * z /\ (∃ vs, Sx.VRs ρ L vs /\ ∀ i, i < n -> cp w A i ((vs.drop (i * z)).take z)) /\ (A = none ∨ ∃ b o, A = some ⟨b, o, none⟩) := by
 unfold l9 at e; split at e
 . rename_i n' c z'; split at e
   . rename_i hc; cases e; simp only [Sx.VR] at hv; obtain ⟨rfl, hc⟩ := hc; exact ⟨none, c, hv, Nat.zero_le _, Nat.le_trans hc zD, (Nat.zero_mul _).symm, ⟨[], Sx.VRs.nil ρ, λ i hi => absurd hi (Nat.not_lt_zero i)⟩, .inl rfl⟩
   . cases e
 . rename_i a n' c z'; simp only [Sx.VR] at hv; obtain ⟨b, s, o, k, h1, rfl, h3, h4, h5, h6, h7⟩ := hv; split at e
   . rename_i h0; cases e; subst h0; exact ⟨_, k, rfl, Nat.zero_le _, h7, (Nat.zero_mul _).symm, ⟨[], Sx.VRs.nil ρ, λ i hi => absurd hi (Nat.not_lt_zero i)⟩, .inr ⟨_, _, rfl⟩⟩
   . rename_i h0; split at e
     . rename_i cs hcs; split at e
       . rename_i l hl; cases e; have ho : o = a.2 := (by rcases h5 with h5 | h5 <;> omega)
         subst ho; obtain ⟨b', s', f1, f2, _, f4⟩ := r.cells (Sx.rowOf_some hcs); rw [h1] at f1; cases f1; obtain ⟨hl, e3⟩ := Sx.takeN_eq _ _ _ hl; obtain ⟨vs, g1, g2⟩ := qO (w := w) (ρ := ρ) b L a.2 λ j x hx => by
          rw [hl, Sx.dropN_eq, List.getElem?_take] at hx; split at hx
          . rw [List.getElem?_drop] at hx; exact f4 _ x hx
          . cases hx
         have hlen : L.length = n * z := (by rw [hl, List.length_take]; omega); refine ⟨_, k, rfl, by omega, h7, hlen, ⟨vs, g1, λ i hi => ⟨_, rfl, ?_⟩⟩, .inr ⟨_, _, rfl⟩⟩; have hvl : ((vs.drop (i * z)).take z).length = z := by
          have := g1.length; have := Nat.mul_le_mul_right z (show i + 1 <= n from hi); rw [List.length_take, List.length_drop]; rw [Nat.succ_mul] at this; omega
         rw [hvl]; exact g2.part _ _
       . cases e
     . cases e
 . cases e
def C9 (s : List Nat) : Tx := s.map UInt8.ofNat
theorem FV {s : List Nat} {b : ByteArray} (e : b.data.toList.map UInt8.toNat = s) : b = str (C9 s) := by
 have : C9 s = b.data.toList := by
  rw [<- e, C9, List.map_map]; conv => rhs; rw [<- List.map_id b.data.toList]
  exact List.map_congr_left λ x _ => UInt8.ofNat_toNat
 rw [str, this]
def zQ : Sx.AV -> Option Tx
 | .str s => if s.length <= 1048576 then some (C9 s) else none
 | _ => none
theorem uz {x : Sx.AV} {v : Value} {t : Tx} (hv : Sx.VR ρ x v) (e : zQ x = some t) : v = .string (str t) /\ t.length <= maxLen := by
 unfold zQ at e; split at e
 . split at e
   . rename_i s hs; cases e; simp only [Sx.VR] at hv; obtain ⟨b, rfl, hb⟩ := hv; exact ⟨by rw [FV hb], by rw [C9, List.length_map]; exact Nat.le_trans hs zD⟩
   . cases e
 . cases e
def pj {X : Type} (z : Nat) (g : List Sx.AV -> Option X) : Nat -> List Sx.AV -> Option (List X)
 | 0, _ => some []
 | n + 1, L => match g (L.take z) with
   | some x => match pj z g n (L.drop z) with
     | some r => some (x :: r)
     | none => none
   | none => none
theorem qF {X : Type} {z : Nat} {g : List Sx.AV -> Option X} : ∀ {n : Nat} {L : List Sx.AV} {l : List X}, pj z g n L = some l -> l.length = n /\ ∀ (i : Nat) x, l[i]? = some x -> i < n /\ g ((L.drop (i * z)).take z) = some x
 | 0, _, _, e => by cases e; exact ⟨rfl, λ i x hx => by simp at hx⟩
 | n + 1, L, l, e => by
   unfold pj at e
   split at e
   . rename_i x hx
     split at e
     . rename_i r hr
       cases e
       obtain ⟨h1, h2⟩ := qF hr
       refine ⟨by simp [h1], λ i y hy => ?_⟩
       cases i with
       | zero =>
         simp only [List.getElem?_cons_zero, Option.some.injEq] at hy
         subst hy
         exact ⟨by omega, by simpa using hx⟩
       | succ i =>
         obtain ⟨h3, h4⟩ := h2 i y (by simpa using hy)
         refine ⟨by omega, ?_⟩
         rw [List.drop_drop] at h4
         rwa [Nat.succ_mul, Nat.add_comm]
     . cases e
   . cases e
def qj {X : Type} (h : Sx.H) (z : Nat) (g : List Sx.AV -> Option X) (v : Sx.AV) : Option (List X) := match l9 h z v with
 | some (n, L) => pj z g n L
 | none => none
theorem sg (r : Sx.Rel ρ h w) {X : Type} {z : Nat} {g : List Sx.AV -> Option X} {x : Sx.AV} {v : Value} {l : List X} (hv : Sx.VR ρ x v) (e : qj h z g x = some l) :
  ∃ A k, v = .slice A l.length k /\ l.length <= k /\ k <= maxLen /\ ∀ (i : Nat) y, l[i]? = some y -> ∃ L vs, g L = some y /\ Sx.VRs ρ L vs /\ cp w A i vs := by
 unfold qj at e; split at e
 . rename_i n L hs; obtain ⟨A, k, h1, h2, h3, h4, ⟨vs, h5, h6⟩, _⟩ := ly r hv hs; obtain ⟨h7, h8⟩ := qF e; subst h7
   exact ⟨A, k, h1, h2, h3, λ i y hy => by
    obtain ⟨h9, h10⟩ := h8 i y hy; exact ⟨_, _, h10, Sx.VRs.take z (Sx.VRs.drop (i * z) h5), h6 i h9⟩⟩
 . cases e
def xC : List Sx.AV -> Option Tx
 | [x] => zQ x
 | _ => none
theorem Bj (r : Sx.Rel ρ h w) {x : Sx.AV} {v : Value} {l : List Tx} (hv : Sx.VR ρ x v) (e : qj h 1 xC x = some l) : aH w v l := by
 obtain ⟨A, k, h1, h2, h3, h4⟩ := sg r hv e; refine ⟨A, k, h1, h2, h3, λ i y hy => ?_⟩; obtain ⟨L, vs, h5, h6, h7⟩ := h4 i y hy; refine ⟨vs, h7, ?_⟩; unfold xC at h5; split at h5
 . simp only [Sx.VRs] at h6; obtain ⟨u, _, rfl, h8, rfl⟩ := h6; obtain ⟨rfl, h9⟩ := uz h8 h5; exact ⟨rfl, h9⟩
 . cases h5
def Ez (h : Sx.H) : Nat -> List Sx.AV -> Option Ex
 | d + 1, [.int .i64 op, nm, .int .i64 n, cs, ks] => match zQ nm with
   | some t => match qj h 1 xC cs with
     | some c => match qj h 5 (Ez h d) ks with
       | some k => if (-9223372036854775808 <= op /\ op <= 9223372036854775807) /\ (-9223372036854775808 <= n /\ n <= 9223372036854775807) then some (.mk op t n c k) else none
       | none => none
     | none => none
   | none => none
 | _, _ => none
theorem AJ (r : Sx.Rel ρ h w) : ∀ (d : Nat) {L : List Sx.AV} {vs : List Value} {x : Ex}, Ez h d L = some x -> Sx.VRs ρ L vs -> a7 w vs x
 | 0, L, vs, x, e, _ => by simp [Ez] at e
 | d + 1, L, vs, x, e, hv => by
   unfold Ez at e
   split at e
   . rename_i _ d' op nm n cs ks hd
     cases hd
     split at e
     . rename_i t ht
       split at e
       . rename_i c hc
         split at e
         . rename_i k hk
           split at e
           . rename_i hb
             cases e
             simp only [Sx.VRs] at hv
             obtain ⟨v0, _, rfl, k0, v1, _, rfl, k1, v2, _, rfl, k2, v3, _, rfl, k3, v4, _, rfl, k4, rfl⟩ := hv
             simp only [Sx.VR] at k0 k2
             subst k0 k2
             obtain ⟨rfl, hl⟩ := uz k1 ht
             obtain ⟨A, c0, rfl, h2, h3, h4⟩ := sg r k4 hk
             have hcs := Bj r k3 hc
             have hch : ∀ i, ∃ C, ∀ y, k[i]? = some y -> cp w A i C /\ a7 w C y := λ i => by
              cases hi : k[i]? with
              | none => exact ⟨[], λ y hy => by cases hy⟩
              | some y0 =>
                obtain ⟨L, vs, g1, g2, g3⟩ := h4 i y0 hi
                exact ⟨vs, λ y hy => by cases hy; exact ⟨g3, AJ r d g1 g2⟩⟩
             exact .mk hb.1 hl hb.2 hcs h2 h3 (C := λ i => (hch i).choose) (λ i y hy => ((hch i).choose_spec y hy).1) λ i y hy => ((hch i).choose_spec y hy).2
           . cases e
         . cases e
       . cases e
     . cases e
   . cases e
end
end Go.Proofs.YtkfacdofkfabnaaGreatDoor
