/- Texts that are laid together. -/
import Derived.Shelf.SlIter.Nil
import Derived.Shelf.SortM.Plain
import Derived.Shelf.SortM.SortNone
import Derived.Ground.GgzProg
import Derived.Ground.SlgmProg
import Derived.Shelf.SlGeneric
import Derived.Test.YthmohjgdcjafkagProg
import Derived.RangeFuncNested
import Derived.RangeFuncBound
import Derived.RangeFuncCalls
import Derived.RangeFuncLeaves
import Derived.RangeFuncBox
import Derived.Shelf.Abstract
import Derived.Shelf.RegionOpen
import Derived.WalkKit
import Derived.OwnWalkIn
import Derived.TacticsInMore
import Derived.LoopNIn
import Derived.LoopIn
import Derived.PlainAid
import Derived.Laws.BitsAllLaws

/- The contract of slices.Sorted(maps.Keys(m)), over the library's. -/
namespace Go.Proofs.Ythmohjgdcjafkag
open Go.Shelf Go.RowKit Go.Maps Go.Sort

set_option maxRecDepth 100000

end Go.Proofs.Ythmohjgdcjafkag

/- What all texts import of the library. -/


/- Plain arithmetic: numbers in bytes. -/
namespace Go.Proofs.Ythmohjgdcjafkag
open Go.RowKit Go.PlainAid

def getStep (s : ByteArray) (at' : Nat) (n : Int) (k : Nat) : Int := bits BinOp.or IntKind.i64 n (wrap64 (wrap64 (bt s (at' + k)) * 2 ^ (8 * k)))
def getFold (s : ByteArray) (at' : Nat) (ks : List Nat) : Int := ks.foldl (getStep s at') 0
theorem getFold_snoc (s : ByteArray) (at' : Nat) (ks : List Nat) (k : Nat) : getFold s at' (ks ++ [k]) = getStep s at' (getFold s at' ks) k := by simp [getFold]

/-- The number that so many bytes are, the lesser ones first. -/
def getN (s : ByteArray) (at' : Nat) : Nat → Int
  | 0 => 0
  | m + 1 => getN s at' m + bt s (at' + m) * 256 ^ m

theorem or_mul (a b i m : Nat) (hm : m = 2 ^ i) (h : a < m) : a ||| (b * m) = b * m + a := by
  subst hm
  rw [Nat.or_comm, ← Nat.shiftLeft_eq, Nat.shiftLeft_add_eq_or_of_lt h]

theorem i64_or_nat (a b : Nat) (ha : a < 4611686018427387904) (hb : b < 4611686018427387904) : bits .or .i64 (a : Int) (b : Int) = ((a ||| b : Nat) : Int) := by
  have hx : a ||| b < 2 ^ 62 := Nat.or_lt_two_pow (by omega) (by omega)
  show IntKind.i64.wrap ((BitVec.ofInt 64 (a : Int) ||| BitVec.ofInt 64 (b : Int)).toNat : Int) = _
  rw [BitVec.toNat_or, ofInt_u64 a (by omega), ofInt_u64 b (by omega), i64_is]
  unfold wrap64
  omega

theorem or_step (n b : Int) (k : Nat) (hk : k ≤ 3) (h0 : 0 ≤ n) (h1 : n < 256 ^ k) (hb0 : 0 ≤ b) (hb1 : b ≤ 255) :
    bits BinOp.or IntKind.i64 n (wrap64 (wrap64 b * 2 ^ (8 * k))) = n + b * 256 ^ k := by
  obtain ⟨n, rfl⟩ := Int.eq_ofNat_of_zero_le h0
  obtain ⟨b, rfl⟩ := Int.eq_ofNat_of_zero_le hb0
  have hw : wrap64 (b : Int) = b := by unfold wrap64; omega
  rw [hw]
  have hk4 : k = 0 ∨ k = 1 ∨ k = 2 ∨ k = 3 := by omega
  rcases hk4 with rfl | rfl | rfl | rfl
  · have e : wrap64 ((b : Int) * 2 ^ (8 * 0)) = ((b * 1 : Nat) : Int) := by unfold wrap64; omega
    rw [e, i64_or_nat n (b * 1) (by omega) (by omega), or_mul n b 0 1 (by decide) (by omega)]; omega
  · have e : wrap64 ((b : Int) * 2 ^ (8 * 1)) = ((b * 256 : Nat) : Int) := by unfold wrap64; omega
    rw [e, i64_or_nat n (b * 256) (by omega) (by omega), or_mul n b 8 256 (by decide) (by omega)]; omega
  · have e : wrap64 ((b : Int) * 2 ^ (8 * 2)) = ((b * 65536 : Nat) : Int) := by unfold wrap64; omega
    rw [e, i64_or_nat n (b * 65536) (by omega) (by omega), or_mul n b 16 65536 (by decide) (by omega)]; omega
  · have e : wrap64 ((b : Int) * 2 ^ (8 * 3)) = ((b * 16777216 : Nat) : Int) := by unfold wrap64; omega
    rw [e, i64_or_nat n (b * 16777216) (by omega) (by omega), or_mul n b 24 16777216 (by decide) (by omega)]; omega

theorem getN_bd (s : ByteArray) (at' : Nat) : ∀ m, 0 ≤ getN s at' m ∧ getN s at' m < 256 ^ m
  | 0 => by simp [getN]
  | m + 1 => by
    obtain ⟨a, b⟩ := getN_bd s at' m
    have h0 := bt_nonneg s (at' + m)
    have h1 := bt_le s (at' + m)
    have hp : (0 : Int) < 256 ^ m := Int.pow_pos (by omega)
    have m1 : bt s (at' + m) * 256 ^ m ≤ 255 * 256 ^ m := Int.mul_le_mul_of_nonneg_right h1 (by omega)
    have m0 : 0 ≤ bt s (at' + m) * 256 ^ m := Int.mul_nonneg h0 (by omega)
    rw [getN, Int.pow_succ]
    omega

theorem getFold_range (s : ByteArray) (at' : Nat) : ∀ m, m ≤ 4 → getFold s at' (List.range m) = getN s at' m
  | 0, _ => rfl
  | m + 1, h => by
    obtain ⟨a, b⟩ := getN_bd s at' m
    rw [List.range_succ, getFold_snoc, getFold_range s at' m (by omega), getStep, or_step _ _ m (by omega) a b (bt_nonneg _ _) (bt_le _ _), getN]

/-- Byte k of a number. -/
def byteOf (n : Int) (k : Nat) : UInt8 := UInt8.ofNat (n / 256 ^ k % 256).toNat
theorem byteOf_toNat (n : Int) (k : Nat) : ((byteOf n k).toNat : Int) = n / 256 ^ k % 256 := by
  have h0 := Int.emod_nonneg (n / 256 ^ k) (b := 256) (by omega)
  have h1 := Int.emod_lt_of_pos (n / 256 ^ k) (b := 256) (by omega)
  unfold byteOf
  rw [UInt8.toNat_ofNat']
  omega
def putStep (at' : Nat) (n : Int) (l : List UInt8) (k : Nat) : List UInt8 := l.set (at' + k) (byteOf n k)
def putFold (s : ByteArray) (at' : Nat) (n : Int) (ks : List Nat) : List UInt8 := ks.foldl (putStep at' n) s.data.toList
theorem putFold_snoc (s : ByteArray) (at' : Nat) (n : Int) (ks : List Nat) (k : Nat) : putFold s at' n (ks ++ [k]) = (putFold s at' n ks).set (at' + k) (byteOf n k) := by simp [putFold, putStep]
theorem putFold_length (s : ByteArray) (at' : Nat) (n : Int) (ks : List Nat) : (putFold s at' n ks).length = s.size := by
  have h : ∀ (ks : List Nat) (l : List UInt8), (ks.foldl (putStep at' n) l).length = l.length := by
    intro ks
    induction ks with
    | nil => intro l; rfl
    | cons k ks ih => intro l; rw [List.foldl_cons, ih, putStep, List.length_set]
  rw [putFold, h]; simp
/-- The text with a number put into it. -/
def putS (s : ByteArray) (at' m : Nat) (n : Int) : ByteArray := ⟨(putFold s at' n (List.range m)).toArray⟩
theorem putS_size (s : ByteArray) (at' m : Nat) (n : Int) : (putS s at' m n).size = s.size := by
  show (putFold s at' n (List.range m)).toArray.size = s.size
  rw [List.size_toArray]
  exact putFold_length s at' n (List.range m)

end Go.Proofs.Ythmohjgdcjafkag
