/-
  The mathematics of layer 6: the code of a message by a key. Of no program.
-/
import Derived.Test.YtlbmpjikaoenoaaDoorShaM
namespace Go.Gar.Mac

/-- The key, or its digest. -/
def key0 (key : List UInt8) : List UInt8 := if 64 < key.length then Sha.of key else key
theorem key0_len (key : List UInt8) : (key0 key).length ≤ 64 := by
  unfold key0
  split
  · rw [Sha.of_len]; omega
  · omega
/-- Filled up with zeros. -/
def pad (key : List UInt8) : List UInt8 := key0 key ++ List.replicate (64 - (key0 key).length) 0
theorem pad_len (key : List UInt8) : (pad key).length = 64 := by
  have := key0_len key
  simp [pad]; omega
def xs (c : UInt8) (k : List UInt8) : List UInt8 := k.map (· ^^^ c)
theorem xs_len (c : UInt8) (k : List UInt8) : (xs c k).length = k.length := List.length_map _
def of (key b : List UInt8) : List UInt8 := Sha.of (xs 92 (pad key) ++ Sha.of (xs 54 (pad key) ++ b))
theorem of_len (key b : List UInt8) : (of key b).length = 32 := Sha.of_len _
/-- A key with zeros behind, up to 64 bytes, is the same. -/
theorem pad_wide (key : List UInt8) (h : key.length ≤ 64) : pad (key ++ List.replicate (64 - key.length) 0) = pad key := by
  have h0 : key0 key = key := if_neg (by omega)
  have h1 : key0 (key ++ List.replicate (64 - key.length) 0) = key ++ List.replicate (64 - key.length) 0 := if_neg (by simp; omega)
  unfold pad
  rw [h0, h1]
  have : 64 - (key ++ List.replicate (64 - key.length) (0 : UInt8)).length = 0 := by simp; omega
  rw [this, List.replicate_zero, List.append_nil]
theorem of_wide (key b : List UInt8) (h : key.length ≤ 64) : of (key ++ List.replicate (64 - key.length) 0) b = of key b := by
  unfold of
  rw [pad_wide key h]
/-- Loop 1 of the reference. -/
def fill (k : List UInt8) (n : Nat) : List UInt8 := k ++ List.replicate n 0
theorem fill_more (k : List UInt8) (n : Nat) : fill k n ++ [0] = fill k (n + 1) := by
  unfold fill
  rw [List.append_assoc, List.replicate_succ']
/-- Loop 2 of the reference. -/
theorem xs_take (c : UInt8) (k : List UInt8) (i : Nat) (x : UInt8) (h : k[i]? = some x) : xs c (k.take i) ++ [x ^^^ c] = xs c (k.take (i + 1)) := by
  unfold xs
  rw [List.take_add_one, h, List.map_append]
  rfl
/-- The document's example. -/
def foxK : List UInt8 := [107, 101, 121]
def foxM : List UInt8 := [84, 104, 101, 32, 113, 117, 105, 99, 107, 32, 98, 114, 111, 119, 110, 32, 102, 111, 120, 32, 106, 117, 109, 112, 115, 32, 111, 118, 101, 114, 32, 116, 104, 101, 32, 108, 97, 122, 121, 32, 100, 111, 103]
theorem fox : of foxK foxM = [247, 188, 131, 244, 48, 83, 132, 36, 177, 50, 152, 230, 170, 111, 177, 67, 239, 77, 89, 161, 73, 70, 23, 89, 151, 71, 157, 188, 45, 26, 60, 216] := by decide +kernel
end Go.Gar.Mac
