/-
  What the texts below write short.
-/
import Derived.Lib.Hide
import Derived.WalkKit
namespace Go.RowKit
theorem Hid.o {p : Prop} (h : Hid p) : p := h
theorem zH {p : Prop} (h : p) : Hid p := h
theorem zO {p : Prop} (h : p := by omega) : p := h
theorem zD {p : Prop} (h : p := by decide) : p := h
theorem zK {p : Prop} (h : p := by kernel_rfl) : p := h
theorem zW {X : Type} (w : X) : ∃ W, W = w := ⟨w, rfl⟩
theorem zA (w : World) (o : Obj) : Below w.heap.size w (w.alloc o) := (Below.refl w.heap.size w).alloc (Nat.le_refl _) o
theorem zB (w : World) : Below w.heap.size w w := Below.refl _ _
theorem zG {X : Type} {l : List X} {j : Nat} (h : j < l.length) : ∃ x, l[j]? = some x := ⟨_, List.getElem?_eq_getElem h⟩
end Go.RowKit
