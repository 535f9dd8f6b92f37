import Derived.Lib.Bytealg
import Derived.Lib.ParseIntB
import Derived.Lib.Strings
import Derived.WalkKit
import Derived.Test.YtkfacdofkfabnaaGreatDoorKm00
namespace Go.Proofs.YtkfacdofkfabnaaGreatDoor
theorem au {a b : Bool} (h : a = b) : Ending.returned (.bool a) = .returned (.bool b) := by rw [h]
theorem hG {k : IntKind} {a b : Int} (h : a = b) : Ending.returned (.int k a) = .returned (.int k b) := by rw [h]
def td (c : UInt8) : Bool := decide (97 <= c.toNat) && decide (c.toNat <= 122)
def tR (c : UInt8) : Bool := decide (65 <= c.toNat) && decide (c.toNat <= 90)
def yW (c : UInt8) : Bool := decide (48 <= c.toNat) && decide (c.toNat <= 57)
def p9 (c : UInt8) : Bool := td c || tR c || yW c || decide (c.toNat = 95)
def mb : List UInt8 -> Nat
 | [] => 0
 | c :: r => if p9 c then mb r + 1 else 0
theorem rf {c : UInt8} {r : List UInt8} (h : p9 c = true) : mb (c :: r) = mb r + 1 := by simp [mb, h]
theorem ti {c : UInt8} {r : List UInt8} (h : p9 c = false) : mb (c :: r) = 0 := by simp [mb, h]
theorem sJ (s : ByteArray) (k : Nat) (h : k < s.size) : s.data.toList.drop k = s[k] :: s.data.toList.drop (k + 1) := by
 rw [List.drop_eq_getElem_cons (by simpa using h)]; rfl
theorem EH (s : ByteArray) (k : Nat) (h : s.size <= k) : s.data.toList.drop k = [] := by
 apply List.drop_of_length_le; simpa using h
def CZ : List (List UInt8) :=
 [[116, 121, 112, 101], [110, 111, 100, 101], [119, 104, 101, 114, 101], [101, 110, 100], [97, 117, 116, 111, 109, 97, 116, 111, 110],
  [115, 116, 97, 116, 101], [117, 110, 116, 105, 108], [116, 104, 101, 110], [105, 102], [101, 108, 115, 101], [102, 98, 121], [112, 114, 101],
  [110, 111, 116], [97, 110, 100], [111, 114], [119, 104, 101, 110], [109, 101, 114, 103, 101], [109, 97, 116, 99, 104], [101, 118, 101, 114, 121],
  [116, 114, 117, 101], [102, 97, 108, 115, 101]]
def C0 (l : List UInt8) : Bool := CZ.any (l == ·)
def rl (l : List UInt8) : Bool := decide (1 <= l.length) && decide (l.length <= 24) && decide (mb l = l.length)
def As (l : List UInt8) : Bool := rl l && td (l.headD 0) && !C0 l
def Hx (l : List UInt8) : Bool := rl l && tR (l.headD 0)
def str (l : List UInt8) : ByteArray := ⟨l.toArray⟩
theorem aZ (l : List UInt8) : (str l).data.toList = l := rfl
theorem fX (l : List UInt8) : (str l).size = l.length := rfl
theorem str_eq (s : ByteArray) : str s.data.toList = s := by cases s; rfl
def jO : List (List UInt8) -> List UInt8
 | [] => []
 | t :: r => t ++ (if r = [] then [] else 32 :: jO r)
def ten : Nat -> Nat
 | 0 => 1
 | n + 1 => 10 * ten n
end Go.Proofs.YtkfacdofkfabnaaGreatDoor
