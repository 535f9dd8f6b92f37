import Derived.Lib.Bytealg
import Derived.Lib.ParseIntB
import Derived.Lib.Strings
import Derived.WalkKit
import Derived.Test.YtiholfmmphcbeaaGreatDoorKm00
namespace Go.Proofs.YtiholfmmphcbeaaGreatDoor
theorem ah {a b : Bool} (h : a = b) : Ending.returned (.bool a) = .returned (.bool b) := by rw [h]
theorem iz {k : IntKind} {a b : Int} (h : a = b) : Ending.returned (.int k a) = .returned (.int k b) := by rw [h]
def tl (c : UInt8) : Bool := decide (97 <= c.toNat) && decide (c.toNat <= 122)
def tW (c : UInt8) : Bool := decide (65 <= c.toNat) && decide (c.toNat <= 90)
def yF (c : UInt8) : Bool := decide (48 <= c.toNat) && decide (c.toNat <= 57)
def qb (c : UInt8) : Bool := tl c || tW c || yF c || decide (c.toNat = 95)
def mq : List UInt8 -> Nat
 | [] => 0
 | c :: r => if qb c then mq r + 1 else 0
theorem rl {c : UInt8} {r : List UInt8} (h : qb c = true) : mq (c :: r) = mq r + 1 := by simp [mq, h]
theorem tv {c : UInt8} {r : List UInt8} (h : qb c = false) : mq (c :: r) = 0 := by simp [mq, h]
theorem sV (s : ByteArray) (k : Nat) (h : k < s.size) : s.data.toList.drop k = s[k] :: s.data.toList.drop (k + 1) := by
 rw [List.drop_eq_getElem_cons (by simpa using h)]; rfl
theorem Ec (s : ByteArray) (k : Nat) (h : s.size <= k) : s.data.toList.drop k = [] := by
 apply List.drop_of_length_le; simpa using h
def Cp : List (List UInt8) :=
 [[116, 121, 112, 101], [110, 111, 100, 101], [119, 104, 101, 114, 101], [101, 110, 100], [97, 117, 116, 111, 109, 97, 116, 111, 110],
  [115, 116, 97, 116, 101], [117, 110, 116, 105, 108], [116, 104, 101, 110], [105, 102], [101, 108, 115, 101], [102, 98, 121], [112, 114, 101],
  [110, 111, 116], [97, 110, 100], [111, 114], [119, 104, 101, 110], [109, 101, 114, 103, 101], [109, 97, 116, 99, 104], [101, 118, 101, 114, 121],
  [116, 114, 117, 101], [102, 97, 108, 115, 101]]
def Cq (l : List UInt8) : Bool := Cp.any (l == ·)
def rx (l : List UInt8) : Bool := decide (1 <= l.length) && decide (l.length <= 24) && decide (mq l = l.length)
def zF (l : List UInt8) : Bool := rx l && tl (l.headD 0) && !Cq l
def Gf (l : List UInt8) : Bool := rx l && tW (l.headD 0)
def str (l : List UInt8) : ByteArray := ⟨l.toArray⟩
theorem fL (l : List UInt8) : (str l).data.toList = l := rfl
theorem jN (l : List UInt8) : (str l).size = l.length := rfl
theorem str_eq (s : ByteArray) : str s.data.toList = s := by cases s; rfl
end Go.Proofs.YtiholfmmphcbeaaGreatDoor
