/-
  Function values that say yes or no: of strings, of expressions; the rules' own names and constructors, with generated ones or without.
-/
import Derived.Test.YtbpbnebcbjacdaaGreatTreeAll
import Derived.Test.YtbpbnebcbjacdaaGreatLeaf
import Derived.Test.YtbpbnebcbjacdaaGreatShelf
namespace Go.Proofs.YtbpbnebcbjacdaaGreat
open Go.RowKit

def EntersP (g : FuncId) : Prop := ∀ (args : Array Value) (W : World), (callFunc g args).run Tryz.prog W = .ok (.enter g args) W
/-- a function of strings, in every later world -/
def StrFn (w0 : World) (fv : Value) (p : Tx → Bool) : Prop :=
  ∃ (g : FuncId) (cap : Array Value), fv = .func (.func g) #[] cap ∧ EntersP g ∧ ∀ x : Tx, x.length ≤ maxLen → ∀ w, Below w0.heap.size w0 w → Calls Tryz.prog g (#[.string (str x)] ++ cap) w (BoolPost (p x) w)
/-- a function of expressions, in every later world -/
def ExFn (w0 : World) (fv : Value) (p : Ex → Bool) : Prop :=
  ∃ (g : FuncId) (cap : Array Value), fv = .func (.func g) #[] cap ∧ EntersP g ∧ ∀ x L w, Below w0.heap.size w0 w → ExAt w L x → Calls Tryz.prog g (#[.agg L.toArray] ++ cap) w (BoolPost (p x) w)
theorem StrFn.under {w0 w1 : World} {fv : Value} {p : Tx → Bool} (h : StrFn w0 fv p) (hb : Below w0.heap.size w0 w1) : StrFn w1 fv p := by
  obtain ⟨g, cap, e, he, h⟩ := h
  exact ⟨g, cap, e, he, fun x hx w hw => h x hx w (hb.trans (hw.mono hb.size))⟩
theorem ExFn.under {w0 w1 : World} {fv : Value} {p : Ex → Bool} (h : ExFn w0 fv p) (hb : Below w0.heap.size w0 w1) : ExFn w1 fv p := by
  obtain ⟨g, cap, e, he, h⟩ := h
  exact ⟨g, cap, e, he, fun x L w hw hx => h x L w (hb.trans (hw.mono hb.size)) hx⟩

theorem name_fn (w0 : World) : StrFn w0 (.func (.func 57) #[] #[]) (nameM false) :=
  ⟨_, _, rfl, enters_of Tryz.func57 (by kernel_rfl) rfl, fun x hx w _ => (isName_any (str x) w (by rw [str_size]; exact hx)).mono fun e w' h => by
    obtain ⟨rfl, rfl⟩ := h; exact ⟨rfl, Below.refl _ _⟩⟩
theorem con_fn (w0 : World) : StrFn w0 (.func (.func 58) #[] #[]) (conM false) :=
  ⟨_, _, rfl, enters_of Tryz.func58 (by kernel_rfl) rfl, fun x hx w _ => (isCon_any (str x) w (by rw [str_size]; exact hx)).mono fun e w' h => by
    obtain ⟨rfl, rfl⟩ := h; exact ⟨rfl, Below.refl _ _⟩⟩
theorem trimPrefix_any (s p : ByteArray) (w : World) :
    Calls Tryz.prog 90 #[.string s, .string p] w fun e w' => e = .returned (.string ⟨(Lib.trimPrefix s.data.toList p.data.toList).toArray⟩) ∧ w = w' :=
  (Any.strings_TrimPrefix Tryz.lays101 s p w).mono fun _ _ h => ⟨h.1, h.2.symm⟩
theorem ungen_any (x : Tx) (w : World) : Calls Tryz.prog 60 #[.string (str x)] w fun e w' => e = .returned (.string (str (ungenL true x))) ∧ w = w' := by
  go_enter Tryz.func60, Tryz.ntmps60
  go_wp2_with (go_at_call 90; refine (trimPrefix_any _ _ _).mono ?_; rintro e w' ⟨rfl, rfl⟩)
  go_ret
  refine ⟨?_, rfl⟩
  rw [str_toList]
  simp only [ungenL, Lib.trimPrefix, Lib.hasPrefix, Bool.true_and, str]
  rfl
theorem ungen_len (x : Tx) : (ungenL true x).length ≤ x.length := by
  unfold ungenL
  split
  · simp
  · exact Nat.le_refl _
theorem nameMade_fn (w0 : World) : StrFn w0 (.func (.func 59) #[] #[]) (nameM true) := by
  refine ⟨_, _, rfl, enters_of Tryz.func59 (by kernel_rfl) rfl, fun x hx w _ => ?_⟩
  have hx' : (str (ungenL true x)).size ≤ maxLen := by rw [str_size]; have := ungen_len x; omega
  show Calls Tryz.prog 59 #[.string (str x)] w _
  go_enter Tryz.func59, Tryz.ntmps59
  go_wp2_with (first | (go_at_call 60; refine (ungen_any _ _).mono ?_; rintro e w' ⟨rfl, rfl⟩) | (go_at_call 57; refine (isName_any _ _ hx').mono ?_; rintro e w' ⟨rfl, rfl⟩))
  go_ret
  exact ⟨rfl, Below.refl _ _⟩
theorem conMade_fn (w0 : World) : StrFn w0 (.func (.func 61) #[] #[]) (conM true) := by
  refine ⟨_, _, rfl, enters_of Tryz.func61 (by kernel_rfl) rfl, fun x hx w _ => ?_⟩
  have hx' : (str (ungenL true x)).size ≤ maxLen := by rw [str_size]; have := ungen_len x; omega
  show Calls Tryz.prog 61 #[.string (str x)] w _
  go_enter Tryz.func61, Tryz.ntmps61
  go_wp2_with (first | (go_at_call 60; refine (ungen_any _ _).mono ?_; rintro e w' ⟨rfl, rfl⟩) | (go_at_call 58; refine (isCon_any _ _ hx').mono ?_; rintro e w' ⟨rfl, rfl⟩))
  go_ret
  exact ⟨rfl, Below.refl _ _⟩
end Go.Proofs.YtbpbnebcbjacdaaGreat
