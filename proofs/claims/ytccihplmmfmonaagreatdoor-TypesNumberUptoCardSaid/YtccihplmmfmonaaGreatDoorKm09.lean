import Derived.Lib.Bytealg
import Derived.Lib.ParseIntB
import Derived.Lib.Strings
import Derived.WalkKit
import Derived.Test.YtccihplmmfmonaaGreatDoorKm00
namespace Go.Proofs.YtccihplmmfmonaaGreatDoor
theorem ah {a b : Bool} (h : a = b) : Ending.returned (.bool a) = .returned (.bool b) := by rw [h]
theorem iq {k : IntKind} {a b : Int} (h : a = b) : Ending.returned (.int k a) = .returned (.int k b) := by rw [h]
def tB (c : UInt8) : Bool := decide (97 <= c.toNat) && decide (c.toNat <= 122)
def ue (c : UInt8) : Bool := decide (65 <= c.toNat) && decide (c.toNat <= 90)
def yS (c : UInt8) : Bool := decide (48 <= c.toNat) && decide (c.toNat <= 57)
def qj (c : UInt8) : Bool := tB c || ue c || yS c || decide (c.toNat = 95)
def my : List UInt8 -> Nat
 | [] => 0
 | c :: r => if qj c then my r + 1 else 0
theorem ry {c : UInt8} {r : List UInt8} (h : qj c = true) : my (c :: r) = my r + 1 := by simp [my, h]
theorem tG {c : UInt8} {r : List UInt8} (h : qj c = false) : my (c :: r) = 0 := by simp [my, h]
theorem ta (s : ByteArray) (k : Nat) (h : k < s.size) : s.data.toList.drop k = s[k] :: s.data.toList.drop (k + 1) := by
 rw [List.drop_eq_getElem_cons (by simpa using h)]; rfl
theorem Ew (s : ByteArray) (k : Nat) (h : s.size <= k) : s.data.toList.drop k = [] := by
 apply List.drop_of_length_le; simpa using h
def CF : List (List UInt8) :=
 [[116, 121, 112, 101], [110, 111, 100, 101], [119, 104, 101, 114, 101], [101, 110, 100], [97, 117, 116, 111, 109, 97, 116, 111, 110],
  [115, 116, 97, 116, 101], [117, 110, 116, 105, 108], [116, 104, 101, 110], [105, 102], [101, 108, 115, 101], [102, 98, 121], [112, 114, 101],
  [110, 111, 116], [97, 110, 100], [111, 114], [119, 104, 101, 110], [109, 101, 114, 103, 101], [109, 97, 116, 99, 104], [101, 118, 101, 114, 121],
  [116, 114, 117, 101], [102, 97, 108, 115, 101]]
def CG (l : List UInt8) : Bool := CF.any (l == ·)
def rE (l : List UInt8) : Bool := decide (1 <= l.length) && decide (l.length <= 24) && decide (my l = l.length)
def zX (l : List UInt8) : Bool := rE l && tB (l.headD 0) && !CG l
def Gy (l : List UInt8) : Bool := rE l && ue (l.headD 0)
def str (l : List UInt8) : ByteArray := ⟨l.toArray⟩
theorem fJ (l : List UInt8) : (str l).data.toList = l := rfl
theorem jL (l : List UInt8) : (str l).size = l.length := rfl
theorem str_eq (s : ByteArray) : str s.data.toList = s := by cases s; rfl
end Go.Proofs.YtccihplmmfmonaaGreatDoor
