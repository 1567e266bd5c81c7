/- Sums of bytes (SHA-256) as a plain Lean function on integers; plain arithmetic of 32 bits. -/
import Derived.Laws.BitsAllLaws
import Derived.Test.YtjkhboejhcbdpaaDoorHide
namespace Go.Proofs.YtjkhboejhcbdpaaDoor
open Go.RowKit

/-- A number of 32 bits. -/
def U32 (x : Int) : Prop := 0 ≤ x ∧ x < 4294967296
def m32 (x : Int) : Int := x % 4294967296
/-- Turned by n; the bits of three by exclusive or; the choice; the majority. -/
def rotr (x : Int) (n : Nat) : Int := x / 2 ^ n + x % 2 ^ n * 2 ^ (32 - n)
def xr (a b : Int) : Int := ((a.toNat ^^^ b.toNat : Nat) : Int)
def an (a b : Int) : Int := ((a.toNat &&& b.toNat : Nat) : Int)
def orr (a b : Int) : Int := ((a.toNat ||| b.toNat : Nat) : Int)
def xr3 (a b c : Int) : Int := xr (xr a b) c
def sg0 (x : Int) : Int := xr3 (rotr x 7) (rotr x 18) (x / 2 ^ 3)
def sg1 (x : Int) : Int := xr3 (rotr x 17) (rotr x 19) (x / 2 ^ 10)
def Sg0 (x : Int) : Int := xr3 (rotr x 2) (rotr x 13) (rotr x 22)
def Sg1 (x : Int) : Int := xr3 (rotr x 6) (rotr x 11) (rotr x 25)
def cho (e f g : Int) : Int := orr (an e f) (an (4294967295 - e) g)
def maj (a b c : Int) : Int := orr (orr (an a b) (an a c)) (an b c)
/-- The next word of a block, of its first k; the first words. -/
def nextW (f : Nat → Int) (l : List Int) (k : Nat) : Int :=
  if k < 16 then f k else m32 (l.getD (k - 16) 0 + l.getD (k - 7) 0 + sg0 (l.getD (k - 15) 0) + sg1 (l.getD (k - 2) 0))
def words (f : Nat → Int) : Nat → List Int
  | 0 => []
  | k + 1 => words f k ++ [nextW f (words f k) k]
/-- The sixty-four of the rounds. -/
def keysL : List Int := [0x428a2f98, 0x71374491, 0xb5c0fbcf, 0xe9b5dba5, 0x3956c25b, 0x59f111f1, 0x923f82a4, 0xab1c5ed5, 0xd807aa98, 0x12835b01, 0x243185be, 0x550c7dc3, 0x72be5d74, 0x80deb1fe, 0x9bdc06a7, 0xc19bf174, 0xe49b69c1, 0xefbe4786, 0x0fc19dc6, 0x240ca1cc, 0x2de92c6f, 0x4a7484aa, 0x5cb0a9dc, 0x76f988da, 0x983e5152, 0xa831c66d, 0xb00327c8, 0xbf597fc7, 0xc6e00bf3, 0xd5a79147, 0x06ca6351, 0x14292967, 0x27b70a85, 0x2e1b2138, 0x4d2c6dfc, 0x53380d13, 0x650a7354, 0x766a0abb, 0x81c2c92e, 0x92722c85, 0xa2bfe8a1, 0xa81a664b, 0xc24b8b70, 0xc76c51a3, 0xd192e819, 0xd6990624, 0xf40e3585, 0x106aa070, 0x19a4c116, 0x1e376c08, 0x2748774c, 0x34b0bcb5, 0x391c0cb3, 0x4ed8aa4a, 0x5b9cca4f, 0x682e6ff3, 0x748f82ee, 0x78a5636f, 0x84c87814, 0x8cc70208, 0x90befffa, 0xa4506ceb, 0xbef9a3f7, 0xc67178f2]
/-- The eight, at any time. -/
structure St8 where
  a : Int
  b : Int
  c : Int
  d : Int
  e : Int
  f : Int
  g : Int
  h : Int
def t1 (s : St8) (k w : Int) : Int := m32 (s.h + Sg1 s.e + cho s.e s.f s.g + k + w)
def t2 (s : St8) : Int := m32 (Sg0 s.a + maj s.a s.b s.c)
def round1 (s : St8) (k w : Int) : St8 := ⟨m32 (t1 s k w + t2 s), s.a, s.b, s.c, m32 (s.d + t1 s k w), s.e, s.f, s.g⟩
def rounds8 (s : St8) (ws : List Int) : Nat → St8
  | 0 => s
  | k + 1 => round1 (rounds8 s ws k) (keysL.getD k 0) (ws.getD k 0)
def grow (s t : St8) : St8 := ⟨m32 (s.a + t.a), m32 (s.b + t.b), m32 (s.c + t.c), m32 (s.d + t.d), m32 (s.e + t.e), m32 (s.f + t.f), m32 (s.g + t.g), m32 (s.h + t.h)⟩
/-- A block's sixteen numbers. -/
def blockW (l : List Int) (j : Nat) : Int := l.getD (4 * j) 0 * 16777216 + l.getD (4 * j + 1) 0 * 65536 + l.getD (4 * j + 2) 0 * 256 + l.getD (4 * j + 3) 0
/-- The eight behind one block. -/
def step8 (s : St8) (l : List Int) : St8 := grow s (rounds8 s (words (blockW l) 64) 64)
/-- The eight behind n blocks. -/
def blocks8 (s : St8) (l : List Int) : Nat → St8
  | 0 => s
  | n + 1 => step8 (blocks8 s l n) ((l.drop (64 * n)).take 64)
def start8 : St8 := ⟨0x6a09e667, 0xbb67ae85, 0x3c6ef372, 0xa54ff53a, 0x510e527f, 0x9b05688c, 0x1f83d9ab, 0x5be0cd19⟩
/-- How many noughts come behind. -/
def noughts (n : Nat) : Nat := (119 - n % 64) % 64
def lenB (n : Nat) : List Int := (List.range 8).map fun i => (n * 8 : Int) / 256 ^ (7 - i) % 256
def padded (l : List Int) : List Int := l ++ 128 :: (List.replicate (noughts l.length) 0 ++ lenB l.length)
def sum8 (l : List Int) : St8 := blocks8 start8 (padded l) ((padded l).length / 64)
/-- The eight as 32 bytes. -/
def out8 (s : St8) (j : Nat) : Int := [s.a, s.b, s.c, s.d, s.e, s.f, s.g, s.h].getD (j / 4) 0 / 256 ^ (3 - j % 4) % 256
/-- The sum of bytes. -/
def sha (l : List Int) : Nat → Int := out8 (sum8 l)

theorem xr_is {a b : Int} (ha : U32 a) (hb : U32 b) : bits .xor .u32 a b = xr a b := u32_xor a b ha.1 ha.2 hb.1 hb.2
theorem an_is {a b : Int} (ha : U32 a) (hb : U32 b) : bits .and .u32 a b = an a b := u32_and a b ha.1 ha.2 hb.1 hb.2
theorem or_is {a b : Int} (ha : U32 a) (hb : U32 b) : bits .or .u32 a b = orr a b := u32_or a b ha.1 ha.2 hb.1 hb.2
theorem m32_U (x : Int) : U32 (m32 x) := by unfold U32 m32; omega
theorem lt32 {a b : Nat} (ha : a < 2 ^ 32) (hb : b < 2 ^ 32) : a ^^^ b < 2 ^ 32 ∧ a &&& b < 2 ^ 32 ∧ a ||| b < 2 ^ 32 := ⟨Nat.xor_lt_two_pow ha hb, Nat.and_lt_two_pow _ hb, Nat.or_lt_two_pow ha hb⟩
theorem nat32 {a : Int} (ha : U32 a) : a.toNat < 2 ^ 32 := by have := ha.2; have := ha.1; omega
theorem xr_U {a b : Int} (ha : U32 a) (hb : U32 b) : U32 (xr a b) := by have := (lt32 (nat32 ha) (nat32 hb)).1; unfold U32 xr; omega
theorem an_U {a b : Int} (ha : U32 a) (hb : U32 b) : U32 (an a b) := by have := (lt32 (nat32 ha) (nat32 hb)).2.1; unfold U32 an; omega
theorem orr_U {a b : Int} (ha : U32 a) (hb : U32 b) : U32 (orr a b) := by have := (lt32 (nat32 ha) (nat32 hb)).2.2; unfold U32 orr; omega
theorem abc_sum : sha [97, 98, 99] 0 = 186 ∧ sha [97, 98, 99] 1 = 120 ∧ sha [97, 98, 99] 2 = 22 ∧ sha [97, 98, 99] 3 = 191 := by decide +kernel
end Go.Proofs.YtjkhboejhcbdpaaDoor
