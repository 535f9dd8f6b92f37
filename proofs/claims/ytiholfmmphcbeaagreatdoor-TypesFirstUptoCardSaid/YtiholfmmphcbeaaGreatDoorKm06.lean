import Derived.LaidEqlPtr
import Derived.Test.YtiholfmmphcbeaaGreatDoorKm05
set_option maxHeartbeats 1000000
set_option maxRecDepth 100000
namespace Go.Proofs.YtiholfmmphcbeaaGreatDoor
open _root_.Go.Proofs.Tryz
open Go.RowKit
theorem dr {a b : Bool} (h : a = b) : Ending.returned (.bool a) = .returned (.bool b) := by rw [h]
theorem mN {k : IntKind} {a b : Int} (h : a = b) : Ending.returned (.int k a) = .returned (.int k b) := by rw [h]
section
variable {B k : Nat} {w : World} {v : Value} {S : KS} {E : Nat -> El} {ρ : Nat -> Nat}
theorem zN (h : bT B w k v S E ρ) : Calls prog 147 #[.pointer (some ⟨k, 0, none⟩)] w λ e w' => e = .returned (.int .i64 S.n) /\ w = w' := by
 have hc := h.cell0; obtain ⟨A, c, rfl, h1, h2⟩ := h.len; clear h; unfold maxLen at h2; go_enter func147, ntmps147
 go_wp2; go_ret; exact ⟨rfl, rfl⟩
theorem dt (h : bT B w k v S E ρ) (a : Int) : Calls prog 107 #[.pointer (some ⟨k, 0, none⟩), .int .i64 a] w λ e w' => e = .returned (.bool (inK S a)) /\ w = w' := by
 have H := zH h; have hb := h.big; clear h; by_cases h0 : 0 <= a
 . go_enter func107, ntmps107
   go_wp2_with (go_at_call 147; ((with_reducible refine (zN H.o).mono ?_); rintro e w' ⟨rfl, rfl⟩))
   go_ret; exact ⟨dr (by simp [inK, h0]), rfl⟩
 . go_enter func107, ntmps107
   go_wp2_with (go_at_call 147; ((with_reducible refine (zN H.o).mono ?_); rintro e w' ⟨rfl, rfl⟩))
   go_ret; exact ⟨dr (by simp [inK]; omega), rfl⟩
theorem gQ {g c : Nat} (h : bT B w k (.slice (some ⟨g, 0, none⟩) S.n c) S E ρ) {a : Nat} (ha : a < S.n) :
  Calls prog 108 #[.pointer (some ⟨k, 0, none⟩), .int .i64 a] w λ e w' => e = .returned (.pointer (some ⟨g, ρ a * 4, none⟩)) /\ w = w' := by
 have hc := h.cell0; have hbig := h.big; have H := zH h; have HA := zH ha; go_enter func108, ntmps108
 go_wp2_with fail
 go_loopg [1] (S.n - (E a).size) (λ gk u wr => ∃ i : Nat, i < S.n /\ ρ i = ρ a /\ gk + (E i).size = S.n /\ u = .int .i64 i /\ wr = w)
 case atStart => exact ⟨a, HA.o, rfl, by have := H.o.good.le a HA.o; omega, rfl, rfl⟩
 case round =>
  obtain ⟨i, hi, hr, hg, rfl, rfl⟩ := hrel; have hx := (H.o.cells hi).1; have HR := zH hr; have HG := zH hg; have hup := H.o.good.up i hi; clear hr hg; by_cases hu : (E i).up = i
  . rw [hu] at hx; have hne : ((i : Int) != (i : Int)) = false := (by simp); have HE := zH (show ρ a = i by rw [<- HR.o]; exact H.o.good.self i hi hu); clear hu hup; go_wp2_with fail
    go_ret; exact ⟨by rw [HE.o]; rfl, rfl⟩
  . have hcl := H.o.good.climb i hi hu; have hle := H.o.good.le _ hup; have HR2 := zH (show ρ (E i).up = ρ a by rw [<- HR.o]; exact (H.o.good.root i hi).2.2); generalize hj : (E i).up = j at *; have HC := zH hcl; have HL := zH hle; have hne : ((j : Int) != (i : Int)) = true := (by simpa using λ e => hu zO); have HU := zH hu; have HJ := zH hj; clear hj hu hcl hle HR; go_wp2_with fail
    go_roundg (S.n - (E j).size)
    case measure => have := HG.o; have := HC.o; have := HL.o; omega
    case rel => exact ⟨j, hup, HR2.o, by have := HL.o; omega, rfl, rfl⟩
theorem Gb : (prog.info? 150).map (·.size) = some 4 := by kernel_rfl
theorem Hq {g c : Nat} (h : bT B w k (.slice (some ⟨g, 0, none⟩) S.n c) S E ρ) (i j : Nat) :
  (binOp .eql 195 (.pointer (some ⟨g, i * 4, none⟩)) (.pointer (some ⟨g, j * 4, none⟩))).run prog w = .ok (.bool (decide (i = j))) w := by
 obtain ⟨q, hq, hqs⟩ := Option.map_eq_some_iff.1 Gb; by_cases e : i = j
 . subst e; rw [run_eql_ptr_same w _ underlying195 hq]; simp
 . rcases h.row with ⟨h, _⟩ | ⟨g', cap, cur, e2, _, h3, _⟩
   . cases h
   . cases e2; rw [run_eql_ptr_other w underlying195 hq (by rw [hqs]; decide) (λ e3 => e (by injection e3 with _ e4 _; omega)) h3 h3]; simp [e]
theorem qn {S : KS} {a : Int} {b : Nat} (h : inK S a = true) (hb : a.toNat = b) : a = (b : Int) /\ b < S.n := by
 have := yw h; omega
theorem Ia (h : bT B w k v S E ρ) (a : Int) : Calls prog 62 #[.pointer (some ⟨k, 0, none⟩), .int .i64 a] w λ e w' => e = .returned (.int .i64 (ofS S a)) /\ w = w' := by
 have H := zH h; cases hk : inK S a
 . have HK := zH hk; clear hk h; go_enter func62, ntmps62
   go_wp2_with (go_at_call 107; ((with_reducible refine (dt H.o _).mono ?_); rintro e w' ⟨he, rfl⟩; rw [HK.o] at he; subst he))
   go_ret; exact ⟨mN (by simp [ofS, HK.o]), rfl⟩
 . obtain ⟨b, hb0⟩ : ∃ b, a.toNat = b := ⟨_, rfl⟩; obtain ⟨rfl, hb⟩ := qn hk hb0; have HK := zH hk; have HB := zH hb; obtain ⟨g, c, rfl, _, _⟩ := h.there zO; have hr := (h.cells (h.good.root b hb).1).2.2.2; rw [h.good.mark b hb] at hr; clear hk h hb hb0; go_enter func62, ntmps62
   go_wp2_with (first
    | (go_at_call 107; ((with_reducible refine (dt H.o _).mono ?_); rintro e w' ⟨he, rfl⟩; rw [HK.o] at he; subst he))
    | (go_at_call 108; ((with_reducible refine (gQ H.o HB.o).mono ?_); rintro e w' ⟨he, rfl⟩; subst he)))
   go_ret; exact ⟨mN (by simp [ofS, HK.o]), rfl⟩
theorem Bh (h : bT B w k v S E ρ) (a : Int) : Calls prog 63 #[.pointer (some ⟨k, 0, none⟩), .int .i64 a] w λ e w' => e = .returned (.int .i64 (j5 S a)) /\ w = w' := by
 have H := zH h; cases hk : inK S a
 . have HK := zH hk; clear hk h; go_enter func63, ntmps63
   go_wp2_with (go_at_call 107; ((with_reducible refine (dt H.o _).mono ?_); rintro e w' ⟨he, rfl⟩; rw [HK.o] at he; subst he))
   go_ret; exact ⟨mN (by simp [j5, HK.o]), rfl⟩
 . obtain ⟨b, hb0⟩ : ∃ b, a.toNat = b := ⟨_, rfl⟩; obtain ⟨rfl, hb⟩ := qn hk hb0; have HK := zH hk; have HB := zH hb; obtain ⟨g, c, rfl, _, _⟩ := h.there zO; have hr := (h.cells (h.good.root b hb).1).2.2.1; rw [h.good.least b hb] at hr; clear hk h hb hb0; go_enter func63, ntmps63
   go_wp2_with (first
    | (go_at_call 107; ((with_reducible refine (dt H.o _).mono ?_); rintro e w' ⟨he, rfl⟩; rw [HK.o] at he; subst he))
    | (go_at_call 108; ((with_reducible refine (gQ H.o HB.o).mono ?_); rintro e w' ⟨he, rfl⟩; subst he)))
   go_ret; exact ⟨mN (by simp [j5, HK.o]), rfl⟩
end
end Go.Proofs.YtiholfmmphcbeaaGreatDoor
