import Derived.Lib.Bytealg
import Derived.Lib.ParseIntB
import Derived.Lib.Strings
import Derived.WalkKit
import Derived.Test.YtdcjlihaldhhjaaGreatDoorKm00
namespace Go.Proofs.YtdcjlihaldhhjaaGreatDoor
theorem aj {a b : Bool} (h : a = b) : Ending.returned (.bool a) = .returned (.bool b) := by rw [h]
theorem gf {k : IntKind} {a b : Int} (h : a = b) : Ending.returned (.int k a) = .returned (.int k b) := by rw [h]
def re (c : UInt8) : Bool := decide (97 <= c.toNat) && decide (c.toNat <= 122)
def rR (c : UInt8) : Bool := decide (65 <= c.toNat) && decide (c.toNat <= 90)
def vP (c : UInt8) : Bool := decide (48 <= c.toNat) && decide (c.toNat <= 57)
def ox (c : UInt8) : Bool := re c || rR c || vP c || decide (c.toNat = 95)
def kD : List UInt8 -> Nat
 | [] => 0
 | c :: r => if ox c then kD r + 1 else 0
theorem pB {c : UInt8} {r : List UInt8} (h : ox c = true) : kD (c :: r) = kD r + 1 := by simp [kD, h]
theorem rk {c : UInt8} {r : List UInt8} (h : ox c = false) : kD (c :: r) = 0 := by simp [kD, h]
theorem qJ (s : ByteArray) (k : Nat) (h : k < s.size) : s.data.toList.drop k = s[k] :: s.data.toList.drop (k + 1) := by
 rw [List.drop_eq_getElem_cons (by simpa using h)]; rfl
theorem BE (s : ByteArray) (k : Nat) (h : s.size <= k) : s.data.toList.drop k = [] := by
 apply List.drop_of_length_le; simpa using h
def zy : List (List UInt8) :=
 [[116, 121, 112, 101], [110, 111, 100, 101], [119, 104, 101, 114, 101], [101, 110, 100], [97, 117, 116, 111, 109, 97, 116, 111, 110],
  [115, 116, 97, 116, 101], [117, 110, 116, 105, 108], [116, 104, 101, 110], [105, 102], [101, 108, 115, 101], [102, 98, 121], [112, 114, 101],
  [110, 111, 116], [97, 110, 100], [111, 114], [119, 104, 101, 110], [109, 101, 114, 103, 101], [109, 97, 116, 99, 104], [101, 118, 101, 114, 121],
  [116, 114, 117, 101], [102, 97, 108, 115, 101]]
def zz (l : List UInt8) : Bool := zy.any (l == ·)
def pG (l : List UInt8) : Bool := decide (1 <= l.length) && decide (l.length <= 24) && decide (kD l = l.length)
def xi (l : List UInt8) : Bool := pG l && re (l.headD 0) && !zz l
def DP (l : List UInt8) : Bool := pG l && rR (l.headD 0)
def str (l : List UInt8) : ByteArray := ⟨l.toArray⟩
theorem aV (l : List UInt8) : (str l).data.toList = l := rfl
theorem fS (l : List UInt8) : (str l).size = l.length := rfl
theorem str_eq (s : ByteArray) : str s.data.toList = s := by cases s; rfl
def iQ : List (List UInt8) -> List UInt8
 | [] => []
 | t :: r => t ++ (if r = [] then [] else 32 :: iQ r)
def ten : Nat -> Nat
 | 0 => 1
 | n + 1 => 10 * ten n
end Go.Proofs.YtdcjlihaldhhjaaGreatDoor
