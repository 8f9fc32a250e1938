/- Plain mathematics of layer 2 (sha): words, pieces, digests, over natural numbers. -/
namespace Go.Proofs.YteciidnjikcimaaDoor.Sha

/-- A word, turned right. -/
def rotr (x n : Nat) : Nat := x / 2 ^ n + x % 2 ^ n * 2 ^ (32 - n)
def sg0 (x : Nat) : Nat := (rotr x 7 ^^^ rotr x 18) ^^^ (x / 8)
def sg1 (x : Nat) : Nat := (rotr x 17 ^^^ rotr x 19) ^^^ (x / 1024)
def bs0 (x : Nat) : Nat := (rotr x 2 ^^^ rotr x 13) ^^^ rotr x 22
def bs1 (x : Nat) : Nat := (rotr x 6 ^^^ rotr x 11) ^^^ rotr x 25
def chs (e f g : Nat) : Nat := (e &&& f) ^^^ ((4294967295 - e) &&& g)
def maj (a b c : Nat) : Nat := ((a &&& b) ^^^ (a &&& c)) ^^^ (b &&& c)
/-- The i-th of some words. -/
def wd (l : List Nat) (i : Nat) : Nat := l.getD i 0
/-- The i-th of some bytes. -/
def bt (r : List UInt8) (i : Nat) : Nat := (r.getD i 0).toNat

/-- The words of the rounds. -/
def kk : List Nat := [1116352408, 1899447441, 3049323471, 3921009573, 961987163, 1508970993, 2453635748, 2870763221, 3624381080, 310598401, 607225278, 1426881987, 1925078388, 2162078206, 2614888103, 3248222580, 3835390401, 4022224774, 264347078, 604807628, 770255983, 1249150122, 1555081692, 1996064986, 2554220882, 2821834349, 2952996808, 3210313671, 3336571891, 3584528711, 113926993, 338241895, 666307205, 773529912, 1294757372, 1396182291, 1695183700, 1986661051, 2177026350, 2456956037, 2730485921, 2820302411, 3259730800, 3345764771, 3516065817, 3600352804, 4094571909, 275423344, 430227734, 506948616, 659060556, 883997877, 958139571, 1322822218, 1537002063, 1747873779, 1955562222, 2024104815, 2227730452, 2361852424, 2428436474, 2756734187, 3204031479, 3329325298]
/-- The first state. -/
def hh : List Nat := [1779033703, 3144134277, 1013904242, 2773480762, 1359893119, 2600822924, 528734635, 1541459225]

/-- A piece's word: four bytes, the highest first. -/
def be4 (r : List UInt8) (i : Nat) : Nat := bt r (4 * i) * 16777216 + bt r (4 * i + 1) * 65536 + bt r (4 * i + 2) * 256 + bt r (4 * i + 3)
def spA (r : List UInt8) : Nat → List Nat
  | 0 => List.replicate 64 0
  | k + 1 => (spA r k).set k (be4 r k)
def nextW (l : List Nat) (i : Nat) : Nat := (sg1 (wd l (i - 2)) + wd l (i - 7) + sg0 (wd l (i - 15)) + wd l (i - 16)) % 4294967296
def spB (r : List UInt8) : Nat → List Nat
  | 0 => spA r 16
  | k + 1 => (spB r k).set (16 + k) (nextW (spB r k) (16 + k))
/-- A piece's 64 words. -/
def sched (r : List UInt8) : List Nat := spB r 48

/-- The eight words of a round. -/
structure V8 where
  a : Nat
  b : Nat
  c : Nat
  d : Nat
  e : Nat
  f : Nat
  g : Nat
  h : Nat
def v8 (c : List Nat) : V8 := ⟨wd c 0, wd c 1, wd c 2, wd c 3, wd c 4, wd c 5, wd c 6, wd c 7⟩
def t1 (v : V8) (k w : Nat) : Nat := (v.h + bs1 v.e + chs v.e v.f v.g + k + w) % 4294967296
def t2 (v : V8) : Nat := (bs0 v.a + maj v.a v.b v.c) % 4294967296
def step (v : V8) (k w : Nat) : V8 := ⟨(t1 v k w + t2 v) % 4294967296, v.a, v.b, v.c, (v.d + t1 v k w) % 4294967296, v.e, v.f, v.g⟩
def rnds (v : V8) (w : List Nat) : Nat → V8
  | 0 => v
  | k + 1 => step (rnds v w k) (wd kk k) (wd w k)
def V8.list (v : V8) : List Nat := [v.a, v.b, v.c, v.d, v.e, v.f, v.g, v.h]
def mix (c : List Nat) (v : V8) : Nat → List Nat
  | 0 => c
  | k + 1 => (mix c v k).set k ((wd c k + wd v.list k) % 4294967296)
/-- What a piece makes of a state. -/
def comp (c : List Nat) (r : List UInt8) : List Nat := mix c (rnds (v8 c) (sched r) 64) 8
/-- The state behind the first k pieces. -/
def blocks (l : List UInt8) : Nat → List Nat
  | 0 => hh
  | k + 1 => comp (blocks l k) ((l.drop (64 * k)).take 64)

def byteOf (n : Nat) : UInt8 := UInt8.ofNat (n % 256)
/-- A number in eight bytes, the highest first: the first k. -/
def be8 (x : Nat) : Nat → List UInt8
  | 0 => []
  | k + 1 => be8 x k ++ [byteOf (x / 2 ^ (56 - 8 * k))]
/-- What is laid out behind a text of n bytes. -/
def ending (n : Nat) : List UInt8 := 128 :: (List.replicate ((119 - n % 64) % 64) 0 ++ be8 (8 * n) 8)
def w4 (x : Nat) : List UInt8 := [byteOf (x / 16777216), byteOf (x / 65536), byteOf (x / 256), byteOf x]
def outB (c : List Nat) : Nat → List UInt8
  | 0 => []
  | k + 1 => outB c k ++ w4 (wd c k)
/-- A text's digest. -/
def dig (l : List UInt8) : List UInt8 := outB (blocks (l ++ ending l.length) ((l ++ ending l.length).length / 64)) 8

def digits : List UInt8 := [48, 49, 50, 51, 52, 53, 54, 55, 56, 57, 97, 98, 99, 100, 101, 102]
def hexB (l : List UInt8) : Nat → List UInt8
  | 0 => []
  | k + 1 => hexB l k ++ [digits.getD (bt l k / 16) 0, digits.getD (bt l k % 16) 0]

def abc : List UInt8 := [97, 98, 99]
def abcHex : List UInt8 := [98, 97, 55, 56, 49, 54, 98, 102, 56, 102, 48, 49, 99, 102, 101, 97, 52, 49, 52, 49, 52, 48, 100, 101, 53, 100, 97, 101, 50, 50, 50, 51, 98, 48, 48, 51, 54, 49, 97, 51, 57, 54, 49, 55, 55, 97, 57, 99, 98, 52, 49, 48, 102, 102, 54, 49, 102, 50, 48, 48, 49, 53, 97, 100]
theorem abc_hex : hexB (dig abc) 32 = abcHex := by decide +kernel
end Go.Proofs.YteciidnjikcimaaDoor.Sha
