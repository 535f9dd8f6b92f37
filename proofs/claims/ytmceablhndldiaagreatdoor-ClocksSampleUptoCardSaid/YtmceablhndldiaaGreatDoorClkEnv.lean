/-
  clocks: the clocks of variables in memory; slices.ContainsFunc over expressions; what allFit asks of each.
-/
import Derived.Test.YtmceablhndldiaaGreatDoorClkCat
namespace Go.Proofs.YtmceablhndldiaaGreatDoor
open Go.RowKit

/-- the map of the first clock listed for each name -/
def MapV (W : World) (l : List (Tx × Value)) (vs : List Vr) : Prop := ∀ s, (s ∉ l.map Prod.fst ∧ lookV vs s = none) ∨ ∃ A k d, (s, .agg #[.int .i64 0, .slice A d.length k]) ∈ l ∧ lookV vs s = some d ∧ ClkAt W (.slice A d.length k) d ∧ d.length ≤ 2097151
structure EnvC (T m R : Nat) (l : List (Tx × Value)) (vs : List Vr) (W : World) : Prop where
  tim : TimAt W T m R
  map : MapAt W m l
  rel : MapV W l vs
variable {T m R : Nat} {l : List (Tx × Value)} {vs : List Vr}
theorem EnvC.under {W W' : World} (h : EnvC T m R l vs W) (hb : Below W.heap.size W W') : EnvC T m R l vs W' :=
  ⟨h.tim.keep hb, h.map.under hb, fun s => (h.rel s).imp id fun ⟨A, k, d, h1, h2, h3, h4⟩ => ⟨A, k, d, h1, h2, h3.under hb, h4⟩⟩
/-- what fits answers of a tree -/
def FitsOk (T m R : Nat) (l : List (Tx × Value)) (vs : List Vr) (x : Ex) : Prop := ∀ W, EnvC T m R l vs W → ∀ L, ExAt W L x → ∀ A k c, ClkAt W (.slice A c.length k) c → Calls Tryz.prog 18 #[.pointer (some ⟨T, 0, none⟩), .agg L.toArray, .agg #[.int .i64 0, .slice A c.length k]] W (BoolPost (fitsQ vs x c) W)
set_option maxHeartbeats 1000000 in
theorem indexFE_any {w0 : World} {va : Value} {ks : List Ex} {f : Ex → Bool} (ha : SliceAt w0 (ExAt w0) va ks) {g : FuncId} {cap : Array Value} (eg : ∀ (args : Array Value) (W : World), (callFunc g args).run Tryz.prog W = .ok (.enter g args) W)
    (hf : ∀ x ∈ ks, ∀ L, ExAt w0 L x → ∀ w, Below w0.heap.size w0 w → Calls Tryz.prog g (#[.agg L.toArray] ++ cap) w (BoolPost (f x) w)) :
    ∀ w, Below w0.heap.size w0 w → Calls Tryz.prog 119 #[va, .func (.func g) #[] cap] w (fun e w' => (∃ n : Int, e = .returned (.int .i64 n) ∧ decide (0 ≤ n) = ks.any f) ∧ Below w.heap.size w w') := by
  intro w hw
  obtain ⟨A, ca, rfl, hca, hma, hea⟩ := ha
  have hla : ks.length ≤ 9223372036854775807 := by unfold maxLen at hma; omega
  have HW0 := Lib.hid hw
  have hsz0 := hw.size
  clear hw hca hma
  go_enter Tryz.func119, Tryz.ntmps119
  go_wp2_with fail
  go_loopg [8] ks.length (fun g v wr => ∃ k : Nat, k + g = ks.length ∧ v = .int .i64 k ∧ ks.any f = (ks.drop k).any f ∧ Below w.heap.size w wr)
  case atStart => exact ⟨0, by omega, rfl, rfl, Below.refl _ _⟩
  case round =>
    obtain ⟨k, hkg, rfl, hto, hbw⟩ := hrel
    have HK := Lib.hid hkg
    have HW := Lib.hid hbw
    have HT := Lib.hid hto
    have hszw := hbw.size
    have hkl : k ≤ ks.length := by omega
    clear hkg hbw hto
    by_cases hlt : k < ks.length
    · obtain ⟨y, hy⟩ : ∃ y, ks[k]? = some y := ⟨_, List.getElem?_eq_getElem hlt⟩
      obtain ⟨L, hEM, hxl⟩ := hea k y hy
      have HF := Lib.hid (hf y (List.mem_of_getElem? hy) L hxl)
      have HB0 := Lib.hid (HW0.out.trans (HW.out.mono hsz0))
      have HD := Lib.hid (show (ks.drop k).any f = (f y || (ks.drop (k + 1)).any f) by rw [drop_consS hy, List.any_cons])
      obtain ⟨o1, s1, n1, A1, m1, k1, A2, m2, k2, rfl⟩ := hxl.shape
      obtain ⟨a, rfl, hab, haa, d0, d1, d2, d3, d4⟩ := elem5 (hEM.under HB0.out)
      clear hEM hea hf hy hxl
      cases hfx : f y
      · have HFX := Lib.hid hfx
        rw [hfx] at HF
        clear hfx
        go_wp2_with (go_at_fn g; refine (HF.out _ HB0.out).mono ?_; rintro e w1 ⟨rfl, hb1⟩)
        go_roundg (ks.length - (k + 1))
        case measure => have := HK.out; omega
        case rel => exact ⟨k + 1, by omega, by go_num, by rw [HT.out, HD.out, HFX.out]; rfl, HW.out.trans (hb1.mono (by omega))⟩
      · have HFX := Lib.hid hfx
        rw [hfx] at HF
        clear hfx
        go_wp2_with (go_at_fn g; refine (HF.out _ HB0.out).mono ?_; rintro e w1 ⟨rfl, hb1⟩)
        go_ret
        exact ⟨⟨_, rfl, by rw [HT.out, HD.out, HFX.out]; simp⟩, HW.out.trans (hb1.mono (by omega))⟩
    · have hke : k = ks.length := by omega
      have HKE := Lib.hid hke
      clear hke
      go_wp2_with fail
      go_ret
      exact ⟨⟨_, rfl, by rw [HT.out, List.drop_of_length_le (by rw [HKE.out]; exact Nat.le_refl _)]; rfl⟩, HW.out⟩
theorem containsFE_any {w0 : World} {va : Value} {ks : List Ex} {f : Ex → Bool} (ha : SliceAt w0 (ExAt w0) va ks) {g : FuncId} {cap : Array Value} (eg : ∀ (args : Array Value) (W : World), (callFunc g args).run Tryz.prog W = .ok (.enter g args) W)
    (hf : ∀ x ∈ ks, ∀ L, ExAt w0 L x → ∀ w, Below w0.heap.size w0 w → Calls Tryz.prog g (#[.agg L.toArray] ++ cap) w (BoolPost (f x) w)) :
    ∀ w, Below w0.heap.size w0 w → Calls Tryz.prog 72 #[va, .func (.func g) #[] cap] w (BoolPost (ks.any f) w) := by
  intro w hw
  have H := Lib.hid (indexFE_any ha eg hf w hw)
  obtain ⟨A, ca, rfl, _⟩ := ha
  clear hf hw
  go_enter Tryz.func72, Tryz.ntmps72
  go_wp2_with (go_at_call 119; refine H.out.mono ?_; rintro e w1 ⟨⟨n, rfl, hn⟩, hb1⟩; have HN := Lib.hid hn; clear hn)
  go_ret
  exact ⟨ret_bool HN.out, hb1⟩
set_option maxHeartbeats 1000000 in
theorem each_any {W : World} {K3 K5 : Nat} {A : Option Addr} {k : Nat} {c : Clk} {x : Ex} {L : List Value} (hF : FitsOk T m R l vs x) (hE : EnvC T m R l vs W) (hc : ClkAt W (.slice A c.length k) c) (h3 : W.heap[K3]? = some (.cells #[.pointer (some ⟨T, 0, none⟩)] 65 (0, 0))) (h5 : W.heap[K5]? = some (.cells #[.int .i64 0, .slice A c.length k] 68 (0, 0))) (hx : ExAt W L x) :
    ∀ w, Below W.heap.size W w → Calls Tryz.prog 73 #[.agg L.toArray, .pointer (some ⟨K3, 0, none⟩), .pointer (some ⟨K5, 0, none⟩)] w (BoolPost (!fitsQ vs x c) w) := by
  intro w hb
  obtain ⟨o1, s1, n1, A1, m1, k1, A2, m2, k2, rfl⟩ := hx.shape
  have hal := Lib.hid ((Below.refl w.heap.size w).alloc (Nat.le_refl _) (.cells #[.int .i64 o1, .string s1, .int .i64 n1, .slice A1 m1 k1, .slice A2 m2 k2] 31))
  have hbb := hb.trans (hal.out.mono hb.size)
  have HF := Lib.hid (hF _ (hE.under hbb) _ (hx.under hbb) A k c (hc.under hbb))
  have hsz := hb.size
  have b3 := row1c (box_next hbb h3)
  obtain ⟨b5, b6⟩ := row2c (box_next hbb h5)
  have e0 := heap_alloc_new w (.cells #[.int .i64 o1, .string s1, .int .i64 n1, .slice A1 m1 k1, .slice A2 m2 k2] 31)
  obtain ⟨p0, p1, p2, p3, p4⟩ := row5 e0
  clear hF hE hc h3 h5 hx hb hbb e0
  go_enter Tryz.func73, Tryz.ntmps73
  go_wp2_with (go_at_call 18; (with_reducible refine HF.out.mono ?_); rintro e w1 ⟨rfl, hb1⟩)
  go_ret
  exact ⟨rfl, hal.out.trans (hb1.mono hal.out.size)⟩
set_option maxHeartbeats 1000000 in
theorem allFit_any {W : World} {va : Value} {ks : List Ex} {A : Option Addr} {k : Nat} {c : Clk} (hF : ∀ x ∈ ks, FitsOk T m R l vs x) (hE : EnvC T m R l vs W) (ha : SliceAt W (ExAt W) va ks) (hc : ClkAt W (.slice A c.length k) c) :
    Calls Tryz.prog 34 #[.pointer (some ⟨T, 0, none⟩), va, .agg #[.int .i64 0, .slice A c.length k]] W (BoolPost (fitsL vs ks c) W) := by
  have hl : ∀ ks : List Ex, fitsL vs ks c = !ks.any fun x => !fitsQ vs x c := by
    intro ks
    induction ks with
    | nil => rw [fitsL]; rfl
    | cons x r ih => rw [fitsL, List.any_cons, ih]; cases fitsQ vs x c <;> simp
  obtain ⟨B, cb, rfl, _⟩ := id ha
  have b2 := ((Below.refl W.heap.size W).alloc (Nat.le_refl _) (.cells #[.pointer (some ⟨T, 0, none⟩)] 65)).alloc (by simp) (.cells #[.int .i64 0, .slice A c.length k] 68)
  have HB2 := Lib.hid b2
  have h3 := heap_alloc_keep (o := .cells #[.int .i64 0, .slice A c.length k] 68) (heap_alloc_new W (.cells #[.pointer (some ⟨T, 0, none⟩)] 65))
  have h5 := alloc_at (w := W.alloc (.cells #[.pointer (some ⟨T, 0, none⟩)] 65)) (o := .cells #[.int .i64 0, .slice A c.length k] 68) (n := W.heap.size + 1) (by simp)
  have HC := Lib.hid (containsFE_any (f := fun x => !fitsQ vs x c) (ha.mono b2 fun _ _ h => h.under b2) (g := 73) (cap := #[.pointer (some ⟨W.heap.size, 0, none⟩), .pointer (some ⟨W.heap.size + 1, 0, none⟩)]) (fun args W => by kernel_rfl)
    (fun x hx L hL w hb => each_any (hF x hx) (hE.under b2) (hc.under b2) h3 h5 hL w hb) _ (Below.refl _ _))
  have HL := Lib.hid (hl ks)
  clear hF hE ha hc b2 h3 h5 hl
  go_enter Tryz.func34, Tryz.ntmps34
  go_wp2_with (go_at_call 72; (with_reducible refine HC.out.mono ?_); rintro e w1 ⟨rfl, hb1⟩)
  go_ret
  exact ⟨ret_bool (by rw [HL.out]), HB2.out.trans (hb1.mono HB2.out.size)⟩
end Go.Proofs.YtmceablhndldiaaGreatDoor
