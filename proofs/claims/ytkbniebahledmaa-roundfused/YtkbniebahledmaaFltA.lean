/-
  Plain facts on floats of 32 bits as whole numbers: definitions after the document's words, and bits. No program is named here.
-/
import Derived.Laws.MathBits
import Derived.Laws.BitsAll
import Derived.RowKit
namespace Go.Proofs.Ytkbniebahledmaa
namespace Flt

def isNaN (a : Int) : Bool := decide (2139095040 < a % 2147483648)
def isInf (a : Int) : Bool := decide (a % 2147483648 = 2139095040)
def sgn (a : Int) : Bool := decide (2147483648 ≤ a)
def kind (a : Int) : Int := if 2139095040 < a % 2147483648 then 3 else if a % 2147483648 = 2139095040 then 2 else if a % 2147483648 = 0 then 0 else 1
def negF (a : Int) : Int := (a + 2147483648) % 4294967296
def absF (a : Int) : Int := a % 2147483648
def signBit (n : Bool) : Int := if n = true then 2147483648 else 0
def place (a : Int) : Int := if 2147483648 ≤ a then -(a % 2147483648) else a
def lessF (a b : Int) : Bool := !isNaN a && !isNaN b && decide (place a < place b)
def equalF (a b : Int) : Bool := !isNaN a && !isNaN b && (place a == place b)
def canon (a : Int) : Int := if isNaN a = true then 2143289344 else a
def minF (a b : Int) : Int := if isNaN a = true ∨ isNaN b = true then 2143289344 else if place a < place b then a else if place b < place a then b else if 2147483648 ≤ a then a else b
def maxF (a b : Int) : Int := if isNaN a = true ∨ isNaN b = true then 2143289344 else if place a < place b then b else if place b < place a then a else if 2147483648 ≤ a then b else a
/-- The exponent of the last bit, and the bits with the hidden one. -/
def expo (a : Int) : Int := if a / 8388608 % 256 = 0 then -149 else a / 8388608 % 256 - 150
def sig (a : Int) : Int := if a / 8388608 % 256 = 0 then a % 8388608 else a % 8388608 + 8388608

/-- How many noughts stand ahead of the first 1 of 64 bits. -/
def lz (x : Int) : Int := 64 - (bitLen x.toNat : Int)
/-- The bits that are dropped, moved up to the word's head. -/
def restOf (s drop : Int) : Int := if drop ≤ 64 then s * 2 ^ (64 - drop).toNat % 18446744073709551616 else 0
def goesOn (way : Int) (neg : Bool) (s drop : Int) (more : Bool) : Bool :=
  if way = 1 then !neg && !(decide (restOf s drop = 0) && (!more && decide (drop ≤ 64)))
  else if way = 2 then neg && !(decide (restOf s drop = 0) && (!more && decide (drop ≤ 64)))
  else if restOf s drop = 9223372036854775808 ∧ more = false ∧ drop ≤ 64 then decide (s / 2 ^ drop.toNat % 2 = 1) else decide (9223372036854775808 ≤ restOf s drop)
def beyond (way : Int) (neg : Bool) : Int := if (way = 1 ∧ neg = true) ∨ (way = 2 ∧ neg = false) then 2139095039 else 2139095040
/-- Rounding of a word whose first bit is 1, at an exponent field. -/
def core (way : Int) (neg : Bool) (s field : Int) (more : Bool) : Int :=
  if 254 < field then beyond way neg
  else if field < 1 then s / 2 ^ (41 - field).toNat + (if goesOn way neg s (41 - field) more = true then 1 else 0)
  else (field - 1) * 8388608 + s / 1099511627776 + (if goesOn way neg s 40 more = true then 1 else 0)
def rnd (way : Int) (neg : Bool) (exp s : Int) (more : Bool) : Int :=
  if s = 0 then (if more = true then signBit neg + core way neg 9223372036854775808 (-873) true else signBit neg)
  else signBit neg + core way neg (s * 2 ^ (lz s).toNat) ((if exp < -1000 then -1000 else if 1000 < exp then 1000 else exp) - lz s + 190) more

theorem and23 (a : Int) (h0 : 0 ≤ a) (h1 : a < 4294967296) : bits .and .u32 a 8388607 = a % 8388608 := by go_bits2
theorem and8 (a : Int) (h0 : 0 ≤ a) (h1 : a < 4294967296) : bits .and .u32 a 255 = a % 256 := by go_bits2
theorem and1 (a : Int) (h0 : 0 ≤ a) (h1 : a < 18446744073709551616) : bits .and .u64 a 1 = a % 2 := by go_bits2
theorem andNot31 (a : Int) (h0 : 0 ≤ a) (h1 : a < 4294967296) : bits .andNot .u32 a 2147483648 = a % 2147483648 := by go_bits2
theorem or23 (a : Int) (h0 : 0 ≤ a) (h1 : a < 8388608) : bits .or .u64 a 8388608 = a + 8388608 := by go_bits2
theorem or31 (a : Int) (h0 : 0 ≤ a) (h1 : a < 2147483648) : bits .or .u32 2147483648 a = a + 2147483648 := by go_bits2
theorem or0 (a : Int) (h0 : 0 ≤ a) (h1 : a < 4294967296) : bits .or .u32 0 a = a := by go_bits2
theorem nat_xor31 (x : Nat) (h : x < 4294967296) : x ^^^ 2147483648 = (x + 2147483648) % 4294967296 := by
  have hm : (x ^^^ 2147483648) % 2147483648 = x % 2147483648 := by
    have := Nat.xor_mod_two_pow (a := x) (b := 2147483648) (n := 31)
    simpa using this
  have hd : (x ^^^ 2147483648) / 2147483648 = x / 2147483648 ^^^ 1 := by
    have := Nat.xor_div_two_pow (a := x) (b := 2147483648) (n := 31)
    simpa using this
  rcases (by omega : x / 2147483648 = 0 ∨ x / 2147483648 = 1) with hx | hx
  · rw [hx, show (0 ^^^ 1 : Nat) = 1 from rfl] at hd; omega
  · rw [hx, show (1 ^^^ 1 : Nat) = 0 from rfl] at hd; omega
theorem xor31 (a : Int) (h0 : 0 ≤ a) (h1 : a < 4294967296) : bits .xor .u32 a 2147483648 = (a + 2147483648) % 4294967296 := by
  go_bits2
  rw [nat_xor31 _ (by omega)]
  omega
end Flt
end Go.Proofs.Ytkbniebahledmaa
