import Derived.Test.YtdcjlihaldhhjaaGreatDoorKm12
import Derived.Test.YtdcjlihaldhhjaaGreatDoorKm24
import Derived.Test.YtdcjlihaldhhjaaGreatDoorKm46
namespace Go.Proofs.YtdcjlihaldhhjaaGreatDoor
open Go.RowKit
theorem sK : ∀ x : Ex, wX x <= 1048576 -> eG x := by
 intro x; induction x using Ex.rec (motive_2 := λ l => wXs l <= 1048576 -> mN l) with
 | mk o nm n cs ks ih =>
   intro h; rw [wX] at h; have h1 : cs.length <= wN cs := by
    clear h ih; induction cs with
    | nil => simp
    | cons c r ih => simp only [wN] at ih ⊢; simp only [List.length_cons]; omega
   have h2 : ks.length <= wXs ks := by
    clear h ih; induction ks with
    | nil => simp
    | cons k r ih => obtain ⟨o, a, b, c, d⟩ := k; rw [wXs, wX, List.length_cons]; omega
   rw [eG]; exact ⟨by omega, by omega, ih zO⟩
 | nil h => rw [mN]; trivial
 | cons k r ih1 ih2 h =>
   rw [wXs] at h; rw [mN]; exact ⟨ih1 zO, ih2 zO⟩
def qL : List Tx := [[70, 97, 108, 115, 101], [84, 114, 117, 101]]
def oC (a b : Ex) : Ex := .mk 13 [99] 0 qL [a, b]
def dW (a b : Ex) : dH := ⟨[], [⟨[102], [], [[120], [99]], [[121]], [⟨⟨[[121]], oC a b⟩, []⟩]⟩]⟩
def nM (a b : Ex) : Ex := oy [99] qL [a, b]
theorem mV (a b : Ex) : nM a b = .mk 12 [99] 0 qL [fw [99] [70, 97, 108, 115, 101] a, fw [99] [84, 114, 117, 101] b] := rfl
theorem my (a b : Ex) : gz (dW a b) = ⟨[], [⟨[102], [], [[120], [99]], [[121]], [⟨⟨[[121]], nM a b⟩, []⟩]⟩]⟩ := by
 simp [gz, dW, iX, fV, deM, oC, gM, gA, nM]
theorem qD (a b : Ex) : ∀ x ∈ (dW a b).nodes, (eH x).length <= 1048576 := by
 intro x hx; simp only [dW, List.mem_singleton] at hx; subst hx; simp [eH, gP]
theorem oV (a b : Ex) : ∀ x ∈ (gz (dW a b)).nodes, (eH x).length <= 1048576 := by
 intro x hx; simp only [my, List.mem_singleton] at hx; subst hx; simp [eH, gP]
theorem sw {a b : Ex} (ha : eG a) (hb : eG b) : TrP (dW a b) := by
 refine ⟨by simp [dW], by simp [dW], by simp [dW], λ n hn => ?_⟩; simp only [dW, List.mem_singleton] at hn; subst hn; refine ⟨by simp, by simp, by simp, by simp, λ i hi => ?_⟩; simp only [List.mem_singleton] at hi; subst hi; refine ⟨by simp, ?_, ?_, rfl⟩
 . simp only [oC, eG, mN]; exact ⟨by simp [qL], by simp, ha, hb, trivial⟩
 . simp [oC, gG, qL]
theorem mR {c : UInt8} : ([c] : Tx).length <= maxLen := by unfold maxLen; simp
theorem lI {X : Type} {w : World} {R : List Value -> X -> Prop} : aw w R (.slice none 0 0) [] := ⟨none, 0, rfl, Nat.le_refl _, by unfold maxLen; omega, λ i x h => by simp at h⟩
theorem Ak {w : World} {a b : Ex} {L M : List Value} {c0 c1 c3 c4 c5 c6 c7 : Nat} (ha : aT w L a) (hb : aT w M b)
  (h0 : w.heap[c0]? = some (.cells #[.string (str [70, 97, 108, 115, 101]), .string (str [84, 114, 117, 101])] 9 (0, 0)))
  (h1 : w.heap[c1]? = some (.cells (L ++ M).toArray 25 (0, 0)))
  (h3 : w.heap[c3]? = some (.cells #[.string (str [120]), .string (str [99])] 9 (0, 0)))
  (h4 : w.heap[c4]? = some (.cells #[.string (str [121])] 9 (0, 0)))
  (h5 : w.heap[c5]? = some (.cells #[.string (str [121])] 9 (0, 0)))
  (h6 : w.heap[c6]? = some (.cells #[.slice (some ⟨c5, 0, none⟩) 1 1, .int .i64 13, .string (str [99]), .int .i64 0, .slice (some ⟨c0, 0, none⟩) 2 2, .slice (some ⟨c1, 0, none⟩) 2 2, .slice none 0 0] 31 (0, 0)))
  (h7 : w.heap[c7]? = some (.cells #[.string (str [102]), .slice none 0 0, .slice (some ⟨c3, 0, none⟩) 2 2, .slice (some ⟨c4, 0, none⟩) 1 1, .slice (some ⟨c6, 0, none⟩) 1 1] 34 (0, 0))) :
  ei w [.slice none 0 0, .slice (some ⟨c7, 0, none⟩) 1 1] (dW a b) := by
 have hm : aT w [.int .i64 13, .string (str [99]), .int .i64 0, .slice (some ⟨c0, 0, none⟩) 2 2, .slice (some ⟨c1, 0, none⟩) 2 2] (oC a b) :=
  gp (cp zO) (cp zO) mR (kV h0 (L := [.string (str [70, 97, 108, 115, 101])]) (M := [.string (str [84, 114, 117, 101])]) ⟨rfl, by unfold maxLen; simp⟩ ⟨rfl, by unfold maxLen; simp⟩ rfl rfl)
   (kV h1 ha hb rfl (by rw [ha.len, hb.len]))
 refine ⟨_, _, rfl, lI, oE h7 (L := [.string (str [102]), .slice none 0 0, .slice (some ⟨c3, 0, none⟩) 2 2, .slice (some ⟨c4, 0, none⟩) 1 1, .slice (some ⟨c6, 0, none⟩) 1 1]) ?_ rfl⟩; refine ⟨_, _, _, _, rfl, mR, lI, kV h3 (L := [.string (str [120])]) (M := [.string (str [99])]) ⟨rfl, mR⟩ ⟨rfl, mR⟩ rfl rfl, oE h4 (L := [.string (str [121])]) ⟨rfl, mR⟩ rfl, ?_⟩; refine oE h6 (L := [.slice (some ⟨c5, 0, none⟩) 1 1, .int .i64 13, .string (str [99]), .int .i64 0, .slice (some ⟨c0, 0, none⟩) 2 2, .slice (some ⟨c1, 0, none⟩) 2 2, .slice none 0 0]) ?_ rfl; exact ⟨[.slice (some ⟨c5, 0, none⟩) 1 1, .int .i64 13, .string (str [99]), .int .i64 0, .slice (some ⟨c0, 0, none⟩) 2 2, .slice (some ⟨c1, 0, none⟩) 2 2], _, rfl, ⟨_, _, rfl, oE h5 (L := [.string (str [121])]) ⟨rfl, mR⟩ rfl, hm⟩, lI⟩
end Go.Proofs.YtdcjlihaldhhjaaGreatDoor
