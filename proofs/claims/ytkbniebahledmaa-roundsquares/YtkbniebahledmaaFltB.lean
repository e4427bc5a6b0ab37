/-
  Sums, products and quotients of floats as package soft reckons them, as plain functions on whole numbers. No program is named here.
-/
import Derived.Test.YtkbniebahledmaaFltA
namespace Go.Proofs.Ytkbniebahledmaa
namespace Flt

/-- The sum of two that are taken apart, the first at no lesser exponent. -/
def sumOrd (way : Int) (xn : Bool) (xe xs : Int) (yn : Bool) (ye ys : Int) : Int :=
  if xe - ye ≤ 39 then
    (if xn = yn then rnd way xn ye (xs * 2 ^ (xe - ye).toNat + ys) false
     else if ys < xs * 2 ^ (xe - ye).toNat then rnd way xn ye (xs * 2 ^ (xe - ye).toNat - ys) false
     else if xs * 2 ^ (xe - ye).toNat < ys then rnd way yn ye (ys - xs * 2 ^ (xe - ye).toNat) false
     else signBit (decide (way = 2)))
  else
    (if xn = yn then rnd way xn (xe - 39) (xs * 549755813888 + ys / 2 ^ (xe - ye - 39).toNat) (decide (ys / 2 ^ (xe - ye - 39).toNat * 2 ^ (xe - ye - 39).toNat ≠ ys))
     else if ys / 2 ^ (xe - ye - 39).toNat * 2 ^ (xe - ye - 39).toNat ≠ ys then rnd way xn (xe - 39) (xs * 549755813888 - (ys / 2 ^ (xe - ye - 39).toNat + 1)) true
     else rnd way xn (xe - 39) (xs * 549755813888 - ys / 2 ^ (xe - ye - 39).toNat) false)
def sumM (way : Int) (xn : Bool) (xe xs : Int) (yn : Bool) (ye ys : Int) : Int :=
  if xe < ye then sumOrd way yn ye ys xn xe xs else sumOrd way xn xe xs yn ye ys
def quoM (way : Int) (neg : Bool) (xe xs ye ys : Int) : Int :=
  rnd way neg (xe - lz xs - ye) (xs * 2 ^ (lz xs).toNat / ys) (decide (xs * 2 ^ (lz xs).toNat % ys ≠ 0))

def addBy (way a b : Int) : Int :=
  if isNaN a = true ∨ isNaN b = true then 2143289344
  else if isInf a = true ∧ isInf b = true ∧ a ≠ b then 2143289344
  else if isInf a = true then a
  else if isInf b = true then b
  else sumM way (sgn a) (expo a) (sig a) (sgn b) (expo b) (sig b)
def mulBy (way a b : Int) : Int :=
  if isNaN a = true ∨ isNaN b = true then 2143289344
  else if (isInf a = true ∧ b % 2147483648 = 0) ∨ (a % 2147483648 = 0 ∧ isInf b = true) then 2143289344
  else if isInf a = true ∨ isInf b = true then signBit (sgn a != sgn b) + 2139095040
  else rnd way (sgn a != sgn b) (expo a + expo b) (sig a * sig b) false
def divBy (way a b : Int) : Int :=
  if isNaN a = true ∨ isNaN b = true then 2143289344
  else if (isInf a = true ∧ isInf b = true) ∨ (a % 2147483648 = 0 ∧ b % 2147483648 = 0) then 2143289344
  else if isInf a = true ∨ b % 2147483648 = 0 then signBit (sgn a != sgn b) + 2139095040
  else if isInf b = true ∨ a % 2147483648 = 0 then signBit (sgn a != sgn b)
  else quoM way (sgn a != sgn b) (expo a) (sig a) (expo b) (sig b)

theorem sig_range (a : Int) : 0 ≤ sig a ∧ sig a < 16777216 := by unfold sig; split <;> omega
theorem expo_range (a : Int) : -149 ≤ expo a ∧ expo a ≤ 105 := by unfold expo; split <;> omega
theorem sig_big (a : Int) (h : -149 < expo a) : 8388608 ≤ sig a := by unfold expo at h; unfold sig; split at h <;> split <;> omega
end Flt
end Go.Proofs.Ytkbniebahledmaa
