/- A part of the proof of MerkleProvesCardSaid: texts that lead to it, merged. -/
import Derived.Test.YtcamanopfhbchaaDoorChecked
import Derived.WalkKit
import Derived.WalkSpells
import Derived.WalkLawsBesides
import Derived.Lib.Hide
import Derived.IntWalk
import Derived.Laws.BitsAllLaws
import Derived.Laws.ShiftsVarLaws
import Derived.Laws.Rows
import Derived.Deep.QuietTactic
import Derived.BigQuiet
import Derived.BigRegion
import Derived.StillTailTactics
import Derived.Deep.RegionWith
import Derived.Test.YtcamanopfhbchaaDoorCards
import Derived.Test.YtcamanopfhbchaaDoorTie
import Derived.ProofKit
import Derived.OpenShut
import Derived.ShutString
import Derived.Deep.DeepHandedRow
import Derived.LaidLaws
import Derived.Lib.LaidTab
import Derived.Stop.Joined
import Derived.Stop.LaidErr
import Derived.LaidEql
import Derived.Stop.Asserts
import Derived.RowKitTokens
import Derived.LaidHandle
import Derived.Laws.MakeOwn
import Derived.Laws.IdiomStrings
import Derived.Lib.UnsafeStr
import Derived.Lib.AppendStr
import Derived.Lib.BufferRead
import Derived.Deep.RegionHeld3
import Derived.Deep.AppendLies
import Derived.Deep.DrawnRows
import Derived.Maps.AppendAt
import Derived.BigCall
import Derived.Deep.LoopGhost
import Derived.Laws.OwnMore
import Derived.OneCell
section
namespace Go.Proofs.YtcamanopfhbchaaDoor.Sha
def rotr (x n : Nat) : Nat := x / 2 ^ n + x % 2 ^ n * 2 ^ (32 - n)
def sg0 (x : Nat) : Nat := (rotr x 7 ^^^ rotr x 18) ^^^ (x / 8)
def sg1 (x : Nat) : Nat := (rotr x 17 ^^^ rotr x 19) ^^^ (x / 1024)
def bs0 (x : Nat) : Nat := (rotr x 2 ^^^ rotr x 13) ^^^ rotr x 22
def bs1 (x : Nat) : Nat := (rotr x 6 ^^^ rotr x 11) ^^^ rotr x 25
def chs (e f g : Nat) : Nat := (e &&& f) ^^^ ((4294967295 - e) &&& g)
def maj (a b c : Nat) : Nat := ((a &&& b) ^^^ (a &&& c)) ^^^ (b &&& c)
def wd (l : List Nat) (i : Nat) : Nat := l.getD i 0
def bt (r : List UInt8) (i : Nat) : Nat := (r.getD i 0).toNat
def kk : List Nat := [1116352408, 1899447441, 3049323471, 3921009573, 961987163, 1508970993, 2453635748, 2870763221, 3624381080, 310598401, 607225278, 1426881987, 1925078388, 2162078206, 2614888103, 3248222580, 3835390401, 4022224774, 264347078, 604807628, 770255983, 1249150122, 1555081692, 1996064986, 2554220882, 2821834349, 2952996808, 3210313671, 3336571891, 3584528711, 113926993, 338241895, 666307205, 773529912, 1294757372, 1396182291, 1695183700, 1986661051, 2177026350, 2456956037, 2730485921, 2820302411, 3259730800, 3345764771, 3516065817, 3600352804, 4094571909, 275423344, 430227734, 506948616, 659060556, 883997877, 958139571, 1322822218, 1537002063, 1747873779, 1955562222, 2024104815, 2227730452, 2361852424, 2428436474, 2756734187, 3204031479, 3329325298]
def hh : List Nat := [1779033703, 3144134277, 1013904242, 2773480762, 1359893119, 2600822924, 528734635, 1541459225]
def be4 (r : List UInt8) (i : Nat) : Nat := bt r (4 * i) * 16777216 + bt r (4 * i + 1) * 65536 + bt r (4 * i + 2) * 256 + bt r (4 * i + 3)
def spA (r : List UInt8) : Nat → List Nat
  | 0 => List.replicate 64 0
  | k + 1 => (spA r k).set k (be4 r k)
def nextW (l : List Nat) (i : Nat) : Nat := (sg1 (wd l (i - 2)) + wd l (i - 7) + sg0 (wd l (i - 15)) + wd l (i - 16)) % 4294967296
def spB (r : List UInt8) : Nat → List Nat
  | 0 => spA r 16
  | k + 1 => (spB r k).set (16 + k) (nextW (spB r k) (16 + k))
def sched (r : List UInt8) : List Nat := spB r 48
structure V8 where
  a : Nat
  b : Nat
  c : Nat
  d : Nat
  e : Nat
  f : Nat
  g : Nat
  h : Nat
def v8 (c : List Nat) : V8 := ⟨wd c 0, wd c 1, wd c 2, wd c 3, wd c 4, wd c 5, wd c 6, wd c 7⟩
def t1 (v : V8) (k w : Nat) : Nat := (v.h + bs1 v.e + chs v.e v.f v.g + k + w) % 4294967296
def t2 (v : V8) : Nat := (bs0 v.a + maj v.a v.b v.c) % 4294967296
def step (v : V8) (k w : Nat) : V8 := ⟨(t1 v k w + t2 v) % 4294967296, v.a, v.b, v.c, (v.d + t1 v k w) % 4294967296, v.e, v.f, v.g⟩
def rnds (v : V8) (w : List Nat) : Nat → V8
  | 0 => v
  | k + 1 => step (rnds v w k) (wd kk k) (wd w k)
def V8.list (v : V8) : List Nat := [v.a, v.b, v.c, v.d, v.e, v.f, v.g, v.h]
def mix (c : List Nat) (v : V8) : Nat → List Nat
  | 0 => c
  | k + 1 => (mix c v k).set k ((wd c k + wd v.list k) % 4294967296)
def comp (c : List Nat) (r : List UInt8) : List Nat := mix c (rnds (v8 c) (sched r) 64) 8
def blocks (l : List UInt8) : Nat → List Nat
  | 0 => hh
  | k + 1 => comp (blocks l k) ((l.drop (64 * k)).take 64)
def byteOf (n : Nat) : UInt8 := UInt8.ofNat (n % 256)
def be8 (x : Nat) : Nat → List UInt8
  | 0 => []
  | k + 1 => be8 x k ++ [byteOf (x / 2 ^ (56 - 8 * k))]
def ending (n : Nat) : List UInt8 := 128 :: (List.replicate ((119 - n % 64) % 64) 0 ++ be8 (8 * n) 8)
def w4 (x : Nat) : List UInt8 := [byteOf (x / 16777216), byteOf (x / 65536), byteOf (x / 256), byteOf x]
def outB (c : List Nat) : Nat → List UInt8
  | 0 => []
  | k + 1 => outB c k ++ w4 (wd c k)
def dig (l : List UInt8) : List UInt8 := outB (blocks (l ++ ending l.length) ((l ++ ending l.length).length / 64)) 8
def abc : List UInt8 := [97, 98, 99]
end Go.Proofs.YtcamanopfhbchaaDoor.Sha
end
section
namespace Go.Proofs.YtcamanopfhbchaaDoor.Sha
open Go.RowKit
theorem retI {k : IntKind} {a b : Int} (h : a = b) : Ending.returned (.int k a) = .returned (.int k b) := by rw [h]
theorem neg_and31 (s c : Nat) (h : c + s = 32) (h0 : 0 < s) (hc : 0 < c) : bits .and .u64 (IntKind.u64.wrap (-(s : Int))) 31 = (c : Int) := by
  have e : IntKind.u64.wrap (-(s : Int)) = ((18446744073709551616 - s : Nat) : Int) := by simp [IntKind.wrap, IntKind.bits, IntKind.signed]; omega
  rw [e];have := u64_and_nat (18446744073709551616 - s) 31 (by omega) (by omega);rw [show ((31 : Nat) : Int) = 31 by rfl] at this;rw [this, show (31 : Nat) = 2 ^ 5 - 1 by rfl, Nat.and_two_pow_sub_one_eq_mod];omega
theorem rot_or (x s c : Nat) (h : c + s = 32) (hx : x < 4294967296) : (x * 2 ^ c % 4294967296) ||| (x / 2 ^ s) = rotr x s := by
  have e : (4294967296 : Nat) = 2 ^ s * 2 ^ c := by rw [← Nat.pow_add, Nat.add_comm s c, h]
  have h1 : x / 2 ^ s < 2 ^ c := by
    rw [Nat.div_lt_iff_lt_mul (Nat.two_pow_pos _), Nat.mul_comm, ← e]; exact hx
  rw [e, Nat.mul_mod_mul_right, Nat.mul_comm (x % 2 ^ s), ← Nat.two_pow_add_eq_or_of_lt h1];unfold rotr;rw [show 32 - s = c by omega, Nat.mul_comm (2 ^ c)];omega
theorem rotr_lt (x s : Nat) (h : s ≤ 32) (hx : x < 4294967296) : rotr x s < 4294967296 := by
  rw [← rot_or x s (32 - s) (by omega) hx];have h2 : x / 2 ^ s < 2 ^ 32 := Nat.lt_of_le_of_lt (Nat.div_le_self _ _) hx;exact Nat.or_lt_two_pow (n := 32) (Nat.mod_lt _ (by omega)) h2
theorem rot_bits (x s c : Nat) (h : c + s = 32) (hx : x < 4294967296) : bits .or .u32 ((x : Int) * 2 ^ c % 4294967296) ((x : Int) / 2 ^ (32 - c)) = ((rotr x s : Nat) : Int) := by
  have e1 : (x : Int) * 2 ^ c % 4294967296 = ((x * 2 ^ c % 4294967296 : Nat) : Int) := by rw [Int.natCast_emod, Int.natCast_mul, Int.natCast_pow]; rfl
  have e2 : (x : Int) / 2 ^ (32 - c) = ((x / 2 ^ s : Nat) : Int) := by rw [show 32 - c = s by omega, Int.natCast_ediv, Int.natCast_pow]; rfl
  have h2 : x / 2 ^ s < 4294967296 := Nat.lt_of_le_of_lt (Nat.div_le_self _ _) hx;rw [e1, e2, u32_or_nat _ _ (Nat.mod_lt _ (by omega)) h2, rot_or x s c h hx]
set_option maxHeartbeats 400000 in
theorem rotl_any (x s c : Nat) (w : World) (hx : x < 4294967296) (h : c + s = 32) (h0 : 0 < s) (hc : 0 < c) :
    Calls Tryd.prog 72 #[.int .u32 (x : Int), .int .i64 (-(s : Int))] w fun e w' => e = .returned (.int .u32 (rotr x s)) ∧ w = w' := by
  have hb := neg_and31 s c h h0 hc;have H := Lib.hid h;have hc2 : c < 32 := by omega
  clear h
  go_enter Tryd.func72, Tryd.ntmps72
  go_wp2
  go_ret
  exact ⟨retI (rot_bits x s c H.out hx), rfl⟩
set_option maxHeartbeats 400000 in
theorem right_any (x s : Nat) (w : World) (hx : x < 4294967296) (h0 : 0 < s) (h1 : s < 32) :
    Calls Tryd.prog 71 #[.int .u32 (x : Int), .int .i64 (s : Int)] w fun e w' => e = .returned (.int .u32 (rotr x s)) ∧ w = w' := by
  go_enter Tryd.func71, Tryd.ntmps71
  go_wp2_with (go_at_call 72; refine (rotl_any x s (32 - s) _ hx (by omega) h0 (by omega)).mono ?_; rintro e w' ⟨rfl, rfl⟩)
  go_ret
  exact ⟨rfl, rfl⟩
theorem right_int (x : Nat) (i : Int) (w : World) (hx : x < 4294967296) (h0 : 0 < i) (h1 : i < 32) :
    Calls Tryd.prog 71 #[.int .u32 (x : Int), .int .i64 i] w fun e w' => e = .returned (.int .u32 (rotr x i.toNat)) ∧ w = w' := by
  obtain ⟨s, rfl⟩ := Int.eq_ofNat_of_zero_le (show 0 ≤ i by omega);rw [Int.toNat_natCast];exact right_any x s w hx (by omega) (by omega)
end Go.Proofs.YtcamanopfhbchaaDoor.Sha
end
section
namespace Go.Proofs.YtcamanopfhbchaaDoor.Sha
open Go.RowKit
def u32V (n : Nat) : Value := .int .u32 (n : Int)
def arrU (l : List Nat) : Array Value := (l.map u32V).toArray
def Row (w : World) (g : Nat) (t : TypeId) (cs : Array Value) : Prop := w.heap[g]? = some (.cells cs t (0, 0))
theorem Row.below {w w' : World} {g B : Nat} {t : TypeId} {cs : Array Value} (h : Row w g t cs) (hb : Below B w w') (hg : g < B) : Row w' g t cs := (hb.block g hg).trans h
theorem Row.cell {w : World} {g : Nat} {t : TypeId} {cs : Array Value} (h : Row w g t cs) (i : Nat) : w.cell? ⟨g, i, none⟩ = cs[i]? := cell_of_row w g i cs t (0, 0) h
theorem Row.frozen {w : World} {g : Nat} {t : TypeId} {cs : Array Value} (h : Row w g t cs) (i : Nat) : w.frozen? ⟨g, i, none⟩ = false := frozen_of_row w g i cs t h
theorem Row.set {w : World} {g : Nat} {t : TypeId} {cs : Array Value} (h : Row w g t cs) (i : Nat) (v : Value) : Row (w.setCell ⟨g, i, none⟩ v) g t (cs.setIfInBounds i v) := heap_setCell_same w g i cs t v h
theorem Row.other {w : World} {g : Nat} {t : TypeId} {cs : Array Value} (h : Row w g t cs) (a : Addr) (v : Value) (hne : g ≠ a.block) : Row (w.setCell a v) g t cs := (heap_setCell_other w a g v hne).trans h
theorem arrU_get (l : List Nat) (i : Nat) (h : i < l.length) : (arrU l)[i]? = some (u32V (wd l i)) := by
  simp [arrU, wd, List.getElem?_eq_getElem h]
theorem arrU_set (l : List Nat) (i n : Nat) : (arrU l).setIfInBounds i (u32V n) = arrU (l.set i n) := by
  simp [arrU, List.map_set]
theorem spA_len (r : List UInt8) (k : Nat) : (spA r k).length = 64 := by
  induction k with
  | zero => simp [spA]
  | succ k ih => simp [spA, ih]
theorem spB_len (r : List UInt8) (k : Nat) : (spB r k).length = 64 := by
  induction k with
  | zero => simp [spB, spA_len]
  | succ k ih => simp [spB, ih]
def zero64 : Array Value := arrU (List.replicate 64 0)
theorem info8 : (Tryd.prog.info? 5).map (fun i => (i.zero, i.size, i.bytes)) = some (some (.int .u8 0), 1, 1) := by kernel_rfl
theorem run_cut64 (w : World) (b o k : Nat) (i : Int) (L : Nat) (hi : i = (k : Int)) (hL : 64 - k = L) (hk : k < 64) :
    (Instr.sliceAt 90 (.pointer (some ⟨b, o, none⟩)) (some (.int .i64 i)) none none).run Tryd.prog w = .ok (.slice (some ⟨b, o + k, none⟩) L L) w := by
  subst hi hL;obtain ⟨i0, hi, hz0, hz1, hz2⟩ := info_parts info8;have e1 : (⟨b, o, none⟩ : Addr).add k = ⟨b, o + k, none⟩ := by unfold Addr.add; split <;> simp_all
  simp [Instr.sliceAt, run_underlying Tryd.underlying90, Instr.sliceBounds, Instr.sliceBound, asIntOf, Instr.sureAddr, sizeOf, typeInfo, hi, hz1, Sem.run_bind, e1, show ¬ 64 = k by omega, show ¬ 64 < k by omega];try (intro h; omega)
theorem below_draws {B : Nat} {w w' : World} (h : Below B w w') (n : Nat) : Below B w (w'.drewN n) := ⟨h.os, h.tape, h.output, h.size, h.block⟩
theorem below_setRow {B g : Nat} {w w' : World} (h : Below B w w') (hg : B ≤ g) (cs : Array Value) : Below B w (w'.setRow g cs) :=
  h.trans ⟨rfl, rfl, rfl, by simp, fun k hk => setRow_other w' g k cs (by omega)⟩
theorem xor_lt (a b : Nat) (ha : a < 4294967296) (hb : b < 4294967296) : a ^^^ b < 4294967296 := Nat.xor_lt_two_pow (n := 32) ha hb
theorem xor3 (a b c : Nat) (ha : a < 4294967296) (hb : b < 4294967296) (hc : c < 4294967296) : bits .xor .u32 (bits .xor .u32 (a : Int) (b : Int)) (c : Int) = (((a ^^^ b) ^^^ c : Nat) : Int) := by
  rw [u32_xor_nat _ _ ha hb, u32_xor_nat _ _ (xor_lt _ _ ha hb) hc]
theorem sg0_bits (x : Nat) (hx : x < 4294967296) : bits .xor .u32 (bits .xor .u32 (rotr x 7 : Int) (rotr x 18 : Int)) ((x : Int) / 8) = ((sg0 x : Nat) : Int) := by
  rw [show (x : Int) / 8 = ((x / 8 : Nat) : Int) by omega];exact xor3 _ _ _ (rotr_lt x 7 (by omega) hx) (rotr_lt x 18 (by omega) hx) (by omega)
theorem sg1_bits (x : Nat) (hx : x < 4294967296) : bits .xor .u32 (bits .xor .u32 (rotr x 17 : Int) (rotr x 19 : Int)) ((x : Int) / 1024) = ((sg1 x : Nat) : Int) := by
  rw [show (x : Int) / 1024 = ((x / 1024 : Nat) : Int) by omega];exact xor3 _ _ _ (rotr_lt x 17 (by omega) hx) (rotr_lt x 19 (by omega) hx) (by omega)
theorem sum4 (a b c d : Nat) : ((a : Int) + (b : Int) + (c : Int) + (d : Int)) % 4294967296 = (((a + b + c + d) % 4294967296 : Nat) : Int) := by omega
theorem bt_lt (r : List UInt8) (i : Nat) : bt r i < 256 := (r.getD i 0).toNat_lt
theorem or4 (a b c d : Nat) (ha : a < 256) (hb : b < 256) (hc : c < 256) (hd : d < 256) :
    bits .or .u32 (bits .or .u32 (bits .or .u32 ((a : Int) % 4294967296 * 16777216 % 4294967296) ((b : Int) % 4294967296 * 65536 % 4294967296)) ((c : Int) % 4294967296 * 256 % 4294967296)) ((d : Int) % 4294967296)
      = ((a * 16777216 + b * 65536 + c * 256 + d : Nat) : Int) := by
  have e1 : (a : Int) % 4294967296 * 16777216 % 4294967296 = ((a * 16777216 : Nat) : Int) := by omega
  have e2 : (b : Int) % 4294967296 * 65536 % 4294967296 = ((b * 65536 : Nat) : Int) := by omega
  have e3 : (c : Int) % 4294967296 * 256 % 4294967296 = ((c * 256 : Nat) : Int) := by omega
  have e4 : (d : Int) % 4294967296 = ((d : Nat) : Int) := by omega
  have o1 : a * 16777216 ||| b * 65536 = a * 16777216 + b * 65536 := by
    have := Nat.two_pow_add_eq_or_of_lt (b := b * 65536) (i := 24) (by omega) a;rw [show (2 : Nat) ^ 24 = 16777216 by rfl, Nat.mul_comm] at this; exact this.symm
  have o2 : (a * 16777216 + b * 65536) ||| c * 256 = a * 16777216 + b * 65536 + c * 256 := by
    have := Nat.two_pow_add_eq_or_of_lt (b := c * 256) (i := 16) (by omega) (a * 256 + b);rw [show (2 : Nat) ^ 16 = 65536 by rfl, show 65536 * (a * 256 + b) = a * 16777216 + b * 65536 by omega] at this; exact this.symm
  have o3 : (a * 16777216 + b * 65536 + c * 256) ||| d = a * 16777216 + b * 65536 + c * 256 + d := by
    have := Nat.two_pow_add_eq_or_of_lt (b := d) (i := 8) (by omega) (a * 65536 + b * 256 + c);rw [show (2 : Nat) ^ 8 = 256 by rfl, show 256 * (a * 65536 + b * 256 + c) = a * 16777216 + b * 65536 + c * 256 by omega] at this; exact this.symm
  rw [e1, e2, e3, e4, u32_or_nat _ _ (by omega) (by omega), o1, u32_or_nat _ _ (by omega) (by omega), o2, u32_or_nat _ _ (by omega) (by omega), o3]
theorem be4_lt (r : List UInt8) (i : Nat) : be4 r i < 4294967296 := by
  have h0 := bt_lt r (4 * i); have h1 := bt_lt r (4 * i + 1); have h2 := bt_lt r (4 * i + 2); have h3 := bt_lt r (4 * i + 3);unfold be4; omega
theorem wd_set (l : List Nat) (i j n : Nat) : wd (l.set i n) j < 4294967296 ∨ ¬ (n < 4294967296 ∧ wd l j < 4294967296) := by
  by_cases h : n < 4294967296 ∧ wd l j < 4294967296
  · left
    unfold wd at *;simp only [List.getD_eq_getElem?_getD, List.getElem?_set] at *
    split
    · split <;> simp_all
    · exact h.2
  · exact .inr h
theorem wd_set_lt (l : List Nat) (i j n : Nat) (h0 : n < 4294967296) (h1 : wd l j < 4294967296) : wd (l.set i n) j < 4294967296 := by
  rcases wd_set l i j n with h | h
  · exact h
  · exact absurd ⟨h0, h1⟩ h
theorem spA_lt (r : List UInt8) (k j : Nat) : wd (spA r k) j < 4294967296 := by
  induction k with
  | zero =>
    unfold wd spA;simp only [List.getD_eq_getElem?_getD, List.getElem?_replicate]
    split <;> simp
  | succ k ih => exact wd_set_lt _ _ _ _ (be4_lt r k) ih
theorem spB_lt (r : List UInt8) (k j : Nat) : wd (spB r k) j < 4294967296 := by
  induction k with
  | zero => exact spA_lt r 16 j
  | succ k ih => exact wd_set_lt _ _ _ _ (Nat.mod_lt _ (by omega)) ih
set_option maxRecDepth 100000 in
set_option maxHeartbeats 400000 in
theorem spread_any (b o : Nat) (r : List UInt8) (w : World) (hb : b < w.heap.size) (hr : ∀ j, j < 64 → w.cell? ⟨b, o + j, none⟩ = some (.int .u8 (bt r j : Nat))) :
    Calls Tryd.prog 70 #[.pointer (some ⟨b, o, none⟩)] w fun e w' => e = .returned (.agg (arrU (sched r))) ∧ Below w.heap.size w w' := by
  have HR := Lib.hid hr;clear hr
  go_enter Tryd.func70, Tryd.ntmps70
  go_wp2
  go_loopw [11] (fun i wr => ∃ k : Nat, k ≤ 16 ∧ i = .int .i64 k ∧ Hid (Row wr (w.heap.size + 1) 136 (arrU (spA r k))) ∧ Hid (Row wr w.heap.size 136 zero64) ∧ Hid (Below w.heap.size w wr)) (fun i _ => 16 - (intOf i).toNat)
  case atStart => exact ⟨0, by omega, rfl, Lib.hid (heap_alloc2_new _ _ _), Lib.hid (heap_alloc2_old _ _ _), Lib.hid (((Below.refl _ _).alloc (Nat.le_refl _) _).alloc (by simp) _)⟩
  case round =>
    obtain ⟨k, hk, rfl, HA, HZ, HB⟩ := hrel
    by_cases hlt : k < 16
    · obtain ⟨L, hL, hL0⟩ : ∃ L, 64 - 4 * k = L ∧ 3 < L := ⟨_, rfl, by omega⟩;have hsl := run_cut64 wr b o (4 * k) (4 * (k : Int)) L (by omega) hL (by omega);clear hL;have l0 : 0 < L := by omega
      have l1 : (1 : Int) < (L : Int) := by omega
      have l2 : (2 : Int) < (L : Int) := by omega
      have l3 : (3 : Int) < (L : Int) := by omega
      have hk64 : (k : Int) < 64 := by omega
      have hc0 : wr.cell? ⟨b, o + 4 * k, none⟩ = some (.int .u8 (bt r (4 * k) : Nat)) := (HB.out.cell (p := ⟨b, o + 4 * k, none⟩) hb).trans (HR.out (4 * k) (by omega));have hc1 : wr.cell? ⟨b, o + 4 * k + 1, none⟩ = some (.int .u8 (bt r (4 * k + 1) : Nat)) := (HB.out.cell (p := ⟨b, o + 4 * k + 1, none⟩) hb).trans (HR.out (4 * k + 1) (by omega));have hc2 : wr.cell? ⟨b, o + 4 * k + 2, none⟩ = some (.int .u8 (bt r (4 * k + 2) : Nat)) := (HB.out.cell (p := ⟨b, o + 4 * k + 2, none⟩) hb).trans (HR.out (4 * k + 2) (by omega));have hc3 : wr.cell? ⟨b, o + 4 * k + 3, none⟩ = some (.int .u8 (bt r (4 * k + 3) : Nat)) := (HB.out.cell (p := ⟨b, o + 4 * k + 3, none⟩) hb).trans (HR.out (4 * k + 3) (by omega));have hs : wr.cell? ⟨w.heap.size + 1, k, none⟩ = some (u32V (wd (spA r k) k)) := (HA.out.cell k).trans (arrU_get _ _ (by rw [spA_len]; omega));have hf := HA.out.frozen k
      go_wp2
      go_still_tail 24, (by kernel_rfl)
      change wpList _ _ _ _ _ wr.drew
      go_wp2
      go_roundw
      case rel =>
        have HV := or4 _ _ _ _ (bt_lt r (4 * k)) (bt_lt r (4 * k + 1)) (bt_lt r (4 * k + 2)) (bt_lt r (4 * k + 3));refine ⟨k + 1, by omega, by go_num, Lib.hid ?_, Lib.hid (HZ.out.other _ _ (by simp)), Lib.hid ((HB.out.setCell (by show _ ≤ w.heap.size + 1; omega) _).drew)⟩;have := HA.out.set k (u32V (be4 r k));rw [arrU_set] at this;rw [HV];exact this
      case measure => simp [intOf]; omega
    · have HK := Lib.hid (show k = 16 by omega)
      go_wp2
      go_loopw [6] (fun i wr => ∃ k n : Nat, k ≤ 48 ∧ n = 16 + k ∧ i = .int .i64 n ∧ Hid (Row wr (w.heap.size + 1) 136 (arrU (spB r k))) ∧ Hid (Row wr w.heap.size 136 zero64) ∧ Hid (Below w.heap.size w wr)) (fun i _ => 64 - (intOf i).toNat)
      case atStart => exact ⟨0, 16, by omega, rfl, rfl, by have := HA; rw [HK.out] at this; exact this, HZ, HB⟩
      case round =>
        clear HA HZ HB HK hk hlt;obtain ⟨k, n, hk, hn, rfl, HA, HZ, HB⟩ := hrel;have HN := Lib.hid hn;have hn0 : 16 ≤ n := by omega
        by_cases hlt : n < 64
        · clear hn;have hg : ∀ i, i < 64 → wr.cell? ⟨w.heap.size + 1, i, none⟩ = some (u32V (wd (spB r k) i)) := fun i hi => (HA.out.cell i).trans (arrU_get _ _ (by rw [spB_len]; omega));have hc15 : wr.cell? ⟨w.heap.size + 1, n - 15, none⟩ = some (.int .u32 (wd (spB r k) (n - 15) : Nat)) := hg _ (by omega);have hc2 : wr.cell? ⟨w.heap.size + 1, n - 2, none⟩ = some (.int .u32 (wd (spB r k) (n - 2) : Nat)) := hg _ (by omega);have hc7 : wr.cell? ⟨w.heap.size + 1, n - 7, none⟩ = some (.int .u32 (wd (spB r k) (n - 7) : Nat)) := hg _ (by omega);have hc16 : wr.cell? ⟨w.heap.size + 1, n - 16, none⟩ = some (.int .u32 (wd (spB r k) (n - 16) : Nat)) := hg _ (by omega);have hcn : wr.cell? ⟨w.heap.size + 1, n, none⟩ = some (.int .u32 (wd (spB r k) n : Nat)) := hg _ (by omega);have hfn := HA.out.frozen n;clear hg;obtain ⟨x15, hx15⟩ : ∃ x, wd (spB r k) (n - 15) = x := ⟨_, rfl⟩;obtain ⟨x2, hx2⟩ : ∃ x, wd (spB r k) (n - 2) = x := ⟨_, rfl⟩;obtain ⟨x7, hx7⟩ : ∃ x, wd (spB r k) (n - 7) = x := ⟨_, rfl⟩;obtain ⟨x16, hx16⟩ : ∃ x, wd (spB r k) (n - 16) = x := ⟨_, rfl⟩;have b15 : x15 < 4294967296 := by rw [← hx15]; exact spB_lt r k _
          have b2 : x2 < 4294967296 := by rw [← hx2]; exact spB_lt r k _
          have b7 : x7 < 4294967296 := by rw [← hx7]; exact spB_lt r k _
          have b16 : x16 < 4294967296 := by rw [← hx16]; exact spB_lt r k _
          rw [hx15] at hc15;rw [hx2] at hc2;rw [hx7] at hc7;rw [hx16] at hc16;have HX := Lib.hid (show nextW (spB r k) n = (sg1 x2 + x7 + sg0 x15 + x16) % 4294967296 by unfold nextW; rw [hx15, hx2, hx7, hx16]);clear hx15 hx2 hx7 hx16;have w15 : IntKind.i64.wrap ((n : Int) - 15) = (n : Int) - 15 := IntWalk.i64_in _ (by omega);have w2 : IntKind.i64.wrap ((n : Int) - 2) = (n : Int) - 2 := IntWalk.i64_in _ (by omega);have w7 : IntKind.i64.wrap ((n : Int) - 7) = (n : Int) - 7 := IntWalk.i64_in _ (by omega);have w16 : IntKind.i64.wrap ((n : Int) - 16) = (n : Int) - 16 := IntWalk.i64_in _ (by omega);have n15 : ((n : Int) - 15).toNat = n - 15 := by omega
          have n2 : ((n : Int) - 2).toNat = n - 2 := by omega
          have n7 : ((n : Int) - 7).toNat = n - 7 := by omega
          have n16 : ((n : Int) - 16).toNat = n - 16 := by omega
          have p15 : 0 ≤ (n : Int) - 15 := by omega
          have p2 : 0 ≤ (n : Int) - 2 := by omega
          have p7 : 0 ≤ (n : Int) - 7 := by omega
          have p16 : 0 ≤ (n : Int) - 16 := by omega
          have q15 : (n : Int) - 15 < 64 := by omega
          have q2 : (n : Int) - 2 < 64 := by omega
          have q7 : (n : Int) - 7 < 64 := by omega
          have q16 : (n : Int) - 16 < 64 := by omega
          go_wp2
          go_quiet (fail)
          go_wp2_with (go_at_call 71; refine (right_int _ _ _ (by omega) (by omega) (by omega)).mono ?_; rintro e w' ⟨rfl, rfl⟩)
          have c7 : (wr.drewN nq).cell? ⟨w.heap.size + 1, n - 7, none⟩ = some (.int .u32 (x7 : Nat)) := hc7;have c16 : (wr.drewN nq).cell? ⟨w.heap.size + 1, n - 16, none⟩ = some (.int .u32 (x16 : Nat)) := hc16;have cn : (wr.drewN nq).cell? ⟨w.heap.size + 1, n, none⟩ = some (.int .u32 (wd (spB r k) n : Nat)) := hcn;have fn_ : (wr.drewN nq).frozen? ⟨w.heap.size + 1, n, none⟩ = false := hfn;have HA2 : Hid (Row (wr.drewN nq) (w.heap.size + 1) 136 (arrU (spB r k))) := HA;have HZ2 : Hid (Row (wr.drewN nq) w.heap.size 136 zero64) := HZ;have HB2 := Lib.hid (below_draws HB.out nq);clear hc7 hc16 hcn hfn hc15 hc2 HA HZ HB;obtain ⟨v2, hw2⟩ : ∃ v, wr.drewN nq = v := ⟨_, rfl⟩;rw [hw2] at c7 c16 cn fn_ HA2 HZ2 HB2 ⊢;clear hw2;have g7 : (7 : Int) ≤ (n : Int) := by omega
          have g16 : (16 : Int) ≤ (n : Int) := by omega
          have g7' : 7 ≤ n := by omega
          go_still_tail 15, (by kernel_rfl)
          change wpList _ _ _ _ _ v2.drew
          go_wp2
          go_roundw
          case rel =>
            refine ⟨k + 1, n + 1, by have := HN.out; omega, by have := HN.out; omega, by go_num, Lib.hid ?_, Lib.hid (HZ2.out.other _ _ (by simp)), Lib.hid ((HB2.out.setCell (by show _ ≤ w.heap.size + 1; omega) _).drew)⟩;have h := HA2.out.set n (u32V (nextW (spB r k) n));rw [arrU_set, HX.out] at h;rw [sg0_bits _ b15, sg1_bits _ b2, sum4];have e : (spB r k).set n ((sg1 x2 + x7 + sg0 x15 + x16) % 4294967296) = spB r (k + 1) := by rw [← HX.out, HN.out]; rfl
            rw [e] at h;exact h
          case measure => simp [intOf]; omega
        · have HK := Lib.hid (show k = 48 by omega);clear hn hn0
          have hsz : (Tryd.prog.info? 136).map (·.size) = some (arrU (spB r k)).size := by
            have : (Tryd.prog.info? 136).map (·.size) = some 64 := by kernel_rfl
            rw [this]; simp [arrU, spB_len]
          have HS := Lib.hid hsz;clear hsz
          go_wp2_with (first | (refine wpList_load_row rfl 136 (.tmp 3) rfl (w.heap.size + 1) rfl 136 (arrU (spB r k)) (0, 0) _ HA.out Tryd.underlying136 rfl HS.out ?_) | (refine wpList_store_row rfl 136 (.tmp 2) (.tmp 87) rfl w.heap.size (arrU (spB r k)) rfl rfl 136 zero64 HZ.out HS.out (by simp [zero64, arrU, spB_len]) (by simp [arrU, u32V, Value.oneCell']) ?_))
          refine bodyPost_ret (v := .agg (arrU (spB r k))) (results_cell_row Tryd.results70 _ _ w.heap.size 136 (arrU (spB r k)) (0, 0) _ rfl (setRow_heap _ _ zero64 _ _ _ HZ.out) Tryd.underlying136 rfl HS.out) rfl ⟨?_, below_setRow HB.out (Nat.le_refl _) _⟩;rw [HK.out]; rfl
end Go.Proofs.YtcamanopfhbchaaDoor.Sha
end
section
namespace Go.Proofs.YtcamanopfhbchaaDoor.Sha
open Go.RowKit
def bV (x : UInt8) : Value := .int .u8 (x.toNat : Int)
def stV (c : List Nat) (r : List UInt8) (n : Nat) : Array Value := (c.map u32V ++ (r.map bV ++ [Value.int .i64 (n : Int)])).toArray
def KTab (w : World) : Prop := ∀ i, i < 64 → w.cell? ⟨2, i, none⟩ = some (u32V (wd kk i))
structure Only (b : Nat) (w w' : World) : Prop where
  os : w'.os = w.os
  tape : w'.tape = w.tape
  output : w'.output = w.output
  size : w.heap.size ≤ w'.heap.size
  block : ∀ k, k < w.heap.size → k ≠ b → w'.heap[k]? = w.heap[k]?
theorem Only.refl (b : Nat) (w : World) : Only b w w := ⟨rfl, rfl, rfl, Nat.le_refl _, fun _ _ _ => rfl⟩
theorem Only.trans {b : Nat} {u v w : World} (h : Only b u v) (k : Only b v w) : Only b u w :=
  ⟨k.os.trans h.os, k.tape.trans h.tape, k.output.trans h.output, Nat.le_trans h.size k.size, fun i hi hb => (k.block i (by have := h.size; omega) hb).trans (h.block i hi hb)⟩
theorem Only.of_below {b : Nat} {w w' : World} (h : Below w.heap.size w w') : Only b w w' := ⟨h.os, h.tape, h.output, h.size, fun k hk _ => h.block k hk⟩
theorem Only.below {b B : Nat} {w w' : World} (h : Only b w w') (hb : B ≤ b) (hB : B ≤ w.heap.size) : Below B w w' := ⟨h.os, h.tape, h.output, h.size, fun k hk => h.block k (by omega) (by omega)⟩
theorem Only.row {b g : Nat} {w w' : World} {t : TypeId} {cs : Array Value} (h : Only b w w') (hr : Row w g t cs) (hne : g ≠ b) (hg : g < w.heap.size) : Row w' g t cs := (h.block g hg hne).trans hr
theorem Only.cell {b : Nat} {w w' : World} (h : Only b w w') {p : Addr} (hp : p.block < w.heap.size) (hne : p.block ≠ b) : w'.cell? p = w.cell? p := World.cell?_of_block (w := w) (h.block p.block hp hne)
theorem Only.setCell {b i : Nat} {u w : World} (h : Only b u w) (v : Value) : Only b u (w.setCell ⟨b, i, none⟩ v) :=
  h.trans ⟨rfl, rfl, rfl, by simp [World.setCell], fun k _ hb => heap_setCell_other w _ k v hb⟩
theorem Only.drew {b : Nat} {u w : World} (h : Only b u w) : Only b u w.drew := ⟨h.os, h.tape, h.output, h.size, h.block⟩
theorem Only.drewN {b : Nat} {u w : World} (h : Only b u w) (n : Nat) : Only b u (w.drewN n) := ⟨h.os, h.tape, h.output, h.size, h.block⟩
theorem Row.lt {w : World} {g : Nat} {t : TypeId} {cs : Array Value} (h : Row w g t cs) : g < w.heap.size := by
  rcases Nat.lt_or_ge g w.heap.size with hlt | hge
  · exact hlt
  · unfold Row at h; rw [Array.getElem?_eq_none hge] at h; cases h
theorem stV_c (c : List Nat) (r : List UInt8) (n i : Nat) (hc : c.length = 8) (hi : i < 8) : (stV c r n)[i]? = some (u32V (wd c i)) := by
  have h : i < c.length := by omega
  simp [stV, wd, List.getElem?_append, h]
theorem stV_r (c : List Nat) (r : List UInt8) (n i : Nat) (hc : c.length = 8) (hr : r.length = 64) (hi : i < 64) : (stV c r n)[8 + i]? = some (.int .u8 (bt r i : Nat)) := by
  have h : i < r.length := by omega
  simp [stV, bt, List.getElem?_append, hc, h, bV]
theorem stV_n (c : List Nat) (r : List UInt8) (n : Nat) (hc : c.length = 8) (hr : r.length = 64) : (stV c r n)[72]? = some (.int .i64 (n : Int)) := by
  simp [stV, hc, hr]
theorem stV_set (c : List Nat) (r : List UInt8) (n i x : Nat) (hc : c.length = 8) (hi : i < 8) : (stV c r n).setIfInBounds i (u32V x) = stV (c.set i x) r n := by
  have h : i < c.length := by omega
  simp [stV, h, List.map_set]
def V8.ok (v : V8) : Prop := v.a < 4294967296 ∧ v.b < 4294967296 ∧ v.c < 4294967296 ∧ v.d < 4294967296 ∧ v.e < 4294967296 ∧ v.f < 4294967296 ∧ v.g < 4294967296 ∧ v.h < 4294967296
theorem rnds_ok (v : V8) (w : List Nat) (h : v.ok) (k : Nat) : (rnds v w k).ok := by
  induction k with
  | zero => exact h
  | succ k ih =>
    obtain ⟨h1, h2, h3, h4, h5, h6, h7, h8⟩ := ih;exact ⟨Nat.mod_lt _ (by omega), h1, h2, h3, Nat.mod_lt _ (by omega), h5, h6, h7⟩
theorem v8_ok (c : List Nat) (h : ∀ i, wd c i < 4294967296) : (v8 c).ok := ⟨h 0, h 1, h 2, h 3, h 4, h 5, h 6, h 7⟩
theorem setRow_only (w : World) (g : Nat) (cs : Array Value) : Only g w (w.setRow g cs) := ⟨rfl, rfl, rfl, by simp, fun k _ hb => setRow_other w g k cs hb⟩
theorem wpList_store_rowA {P : Program} {ops : Array Oper} {rest : List Oper} {o : Oper} {a : Act} {w : World} {Q : Exit → Act → World → Prop} (hgd : o.guard = none) (ty : TypeId) (x y : Operand) (ho : o.op = .store ty x y)
    (g : Nat) (cells : Array Value) (hx : a.eval x = .pointer (some ⟨g, 0, none⟩)) (hy : a.eval y = .agg cells)
    (t : TypeId) (old : Array Value) (hg : Row w g t old) (hi : (P.info? ty).map (·.size) = some cells.size)
    (hold : old.size = cells.size) (h1 : cells.all (·.oneCell') = true)
    (h : ∀ w', Row w' g t cells → Only g w w' → wpList P ops Q rest (a.put o.dst undef) w') : wpList P ops Q (o :: rest) a w :=
  wpList_store_row hgd ty x y ho g cells hx hy t old hg hi hold h1 (h _ (setRow_heap w g old cells t _ hg) (setRow_only w g cells))
theorem and_lt (a b : Nat) (hb : b < 4294967296) : a &&& b < 4294967296 := Nat.and_lt_two_pow (n := 32) a hb
theorem bs0_bits (x : Nat) (hx : x < 4294967296) : bits .xor .u32 (bits .xor .u32 (rotr x 2 : Int) (rotr x 13 : Int)) (rotr x 22 : Int) = ((bs0 x : Nat) : Int) :=
  xor3 _ _ _ (rotr_lt x 2 (by omega) hx) (rotr_lt x 13 (by omega) hx) (rotr_lt x 22 (by omega) hx)
theorem bs1_bits (x : Nat) (hx : x < 4294967296) : bits .xor .u32 (bits .xor .u32 (rotr x 6 : Int) (rotr x 11 : Int)) (rotr x 25 : Int) = ((bs1 x : Nat) : Int) :=
  xor3 _ _ _ (rotr_lt x 6 (by omega) hx) (rotr_lt x 11 (by omega) hx) (rotr_lt x 25 (by omega) hx)
theorem not_nat (x : Nat) (hx : x < 4294967296) : 4294967295 ^^^ x = 4294967295 - x := by
  apply Nat.eq_of_testBit_eq
  intro i;rw [Nat.testBit_xor, show (4294967295 : Nat) = 2 ^ 32 - 1 by rfl, Nat.testBit_two_pow_sub_one, show 2 ^ 32 - 1 - x = 2 ^ 32 - (x + 1) by omega, Nat.testBit_two_pow_sub_succ (by omega)]
  by_cases h : i < 32
  · simp [h]
  · have : x.testBit i = false := Nat.testBit_lt_two_pow (Nat.lt_of_lt_of_le hx (by
      have : 2 ^ 32 ≤ 2 ^ i := Nat.pow_le_pow_right (by omega) (by omega)
      simpa using this))
    simp [h, this]
theorem not_bits (x : Nat) (hx : x < 4294967296) : bits .xor .u32 (if IntKind.u32.signed = true then -1 else IntKind.u32.max) (x : Int) = ((4294967295 - x : Nat) : Int) := by
  have e : (if IntKind.u32.signed = true then -1 else IntKind.u32.max) = ((4294967295 : Nat) : Int) := by decide
  rw [e, u32_xor_nat _ _ (by omega) hx, not_nat x hx]
theorem chs_bits (e f g : Nat) (he : e < 4294967296) (hf : f < 4294967296) (hg : g < 4294967296) :
    bits .xor .u32 (bits .and .u32 (e : Int) (f : Int)) (bits .and .u32 (bits .xor .u32 (if IntKind.u32.signed = true then -1 else IntKind.u32.max) (e : Int)) (g : Int)) = ((chs e f g : Nat) : Int) := by
  rw [not_bits e he, u32_and_nat _ _ he hf, u32_and_nat _ _ (by omega) hg, u32_xor_nat _ _ (and_lt _ _ hf) (and_lt _ _ hg)]; rfl
theorem maj_bits (a b c : Nat) (ha : a < 4294967296) (hb : b < 4294967296) (hc : c < 4294967296) :
    bits .xor .u32 (bits .xor .u32 (bits .and .u32 (a : Int) (b : Int)) (bits .and .u32 (a : Int) (c : Int))) (bits .and .u32 (b : Int) (c : Int)) = ((maj a b c : Nat) : Int) := by
  rw [u32_and_nat _ _ ha hb, u32_and_nat _ _ ha hc, u32_and_nat _ _ hb hc];exact xor3 _ _ _ (and_lt _ _ hb) (and_lt _ _ hc) (and_lt _ _ hc)
theorem sum_a (h s c k w z m : Nat) : (((h : Int) + (s : Int) + (c : Int) + (k : Int) + (w : Int)) % 4294967296 + ((z : Int) + (m : Int)) % 4294967296) % 4294967296 = ((((h + s + c + k + w) % 4294967296 + (z + m) % 4294967296) % 4294967296 : Nat) : Int) := by omega
theorem sum_e (d h s c k w : Nat) : ((d : Int) + ((h : Int) + (s : Int) + (c : Int) + (k : Int) + (w : Int)) % 4294967296) % 4294967296 = (((d + (h + s + c + k + w) % 4294967296) % 4294967296 : Nat) : Int) := by omega
theorem sum2 (a b : Nat) : ((a : Int) + (b : Int)) % 4294967296 = (((a + b) % 4294967296 : Nat) : Int) := by omega
theorem mix_len (c : List Nat) (v : V8) (k : Nat) : (mix c v k).length = c.length := by
  induction k with
  | zero => rfl
  | succ k ih => simp [mix, ih]
theorem mix_at (c : List Nat) (v : V8) (k j : Nat) (h : k ≤ j) : wd (mix c v k) j = wd c j := by
  induction k with
  | zero => rfl
  | succ k ih =>
    rw [← ih (by omega)];simp only [wd, mix, List.getD_eq_getElem?_getD, List.getElem?_set];rw [if_neg (by omega)]
theorem info32 : (Tryd.prog.info? 87).map (fun i => (i.zero, i.size, i.bytes)) = some (some (.int .u32 0), 1, 4) := by kernel_rfl
theorem run_index8 (w : World) (v : V8) (k : Nat) (hk : k < 8) :
    (Instr.index 88 (.agg #[.int .u32 (v.a : Int), .int .u32 (v.b : Int), .int .u32 (v.c : Int), .int .u32 (v.d : Int), .int .u32 (v.e : Int), .int .u32 (v.f : Int), .int .u32 (v.g : Int), .int .u32 (v.h : Int)]) (.int .i64 (k : Int))).run Tryd.prog w = .ok (.int .u32 (wd v.list k : Nat)) w := by
  obtain ⟨i0, hi, hz0, hz1, hz2⟩ := info_parts info32;have hk' : (k : Int) < 8 := by omega
  have hag : (isAgg 87).run Tryd.prog w = .ok false w := by unfold isAgg; rw [Sem.run_bind, run_underlying Tryd.underlying87 w]; rfl
  obtain rfl | rfl | rfl | rfl | rfl | rfl | rfl | rfl : k = 0 ∨ k = 1 ∨ k = 2 ∨ k = 3 ∨ k = 4 ∨ k = 5 ∨ k = 6 ∨ k = 7 := by omega
  all_goals simp [Instr.index, asIntOf, run_underlying Tryd.underlying88, sizeOf, typeInfo, hi, hz1, part, wd, V8.list]
set_option maxRecDepth 100000 in
set_option maxHeartbeats 400000 in
theorem take_any (b : Nat) (t : TypeId) (c : List Nat) (r : List UInt8) (n : Nat) (w : World) (_hb : b ≠ 2) (hk1 : 2 < w.heap.size) (hc : c.length = 8) (hr : r.length = 64) (hlt : ∀ i, wd c i < 4294967296)
    (hrow : Row w b t (stV c r n)) (hK : KTab w) :
    Calls Tryd.prog 69 #[.pointer (some ⟨b, 0, none⟩), .pointer (some ⟨b, 8, none⟩)] w fun e w' => e = .returned (.tuple #[]) ∧ Row w' b t (stV (comp c r) r n) ∧ Only b w w' := by
  have HR := Lib.hid hrow;have HKT := Lib.hid hK;have HLT := Lib.hid hlt;have HC := Lib.hid hc;have HRL := Lib.hid hr;clear hrow hK hlt hc hr
  go_enter Tryd.func69, Tryd.ntmps69
  go_wp2_with (go_at_call 70; refine (spread_any b 8 r _ HR.out.lt (fun j hj => (HR.out.cell (8 + j)).trans (stV_r c r n j HC.out HRL.out hj))).mono ?_; rintro e w1 ⟨rfl, hb1⟩; refine Hid.out ?_)
  refine Lib.hid ?_;have HB1 := Lib.hid hb1;clear hb1
  have HS : Hid ((Tryd.prog.info? 136).map (·.size) = some (arrU (sched r)).size) := Lib.hid (by
    have : (Tryd.prog.info? 136).map (·.size) = some 64 := by kernel_rfl
    rw [this]; simp [arrU, sched, spB_len])
  go_wp2_with (refine wpList_store_rowA rfl 136 (.tmp 4) (.tmp 21) rfl w1.heap.size (arrU (sched r)) rfl rfl 136 zero64 (heap_alloc_new _ _) HS.out (by simp [zero64, arrU, sched, spB_len]) (by simp [arrU, u32V, Value.oneCell']) ?_; intro w2 hw2 ho2; refine Hid.out ?_)
  refine Lib.hid ?_;have HW := Lib.hid hw2;have HO := Lib.hid ((ho2.below (B := w.heap.size) HB1.out.size (by have := HB1.out.size; simp; omega)));have hb2 : Below w.heap.size w w2 := (HB1.out.alloc HB1.out.size _).trans HO.out;have HB := Lib.hid hb2;have HG := Lib.hid (show w.heap.size ≤ w1.heap.size from HB1.out.size);have HR2 := Lib.hid (HR.out.below HB.out HR.out.lt);have HK2 : Hid (KTab w2) := Lib.hid (fun i hi => (HB.out.cell (p := ⟨2, i, none⟩) hk1).trans (HKT.out i hi));clear hw2 ho2 hb2 HO HB1;have c0 : w2.cell? ⟨b, 0, none⟩ = some (.int .u32 (wd c 0 : Nat)) := (HR2.out.cell 0).trans (stV_c c r n 0 HC.out (by omega));have c1 : w2.cell? ⟨b, 1, none⟩ = some (.int .u32 (wd c 1 : Nat)) := (HR2.out.cell 1).trans (stV_c c r n 1 HC.out (by omega));have c2 : w2.cell? ⟨b, 2, none⟩ = some (.int .u32 (wd c 2 : Nat)) := (HR2.out.cell 2).trans (stV_c c r n 2 HC.out (by omega));have c3 : w2.cell? ⟨b, 3, none⟩ = some (.int .u32 (wd c 3 : Nat)) := (HR2.out.cell 3).trans (stV_c c r n 3 HC.out (by omega));have c4 : w2.cell? ⟨b, 4, none⟩ = some (.int .u32 (wd c 4 : Nat)) := (HR2.out.cell 4).trans (stV_c c r n 4 HC.out (by omega));have c5 : w2.cell? ⟨b, 5, none⟩ = some (.int .u32 (wd c 5 : Nat)) := (HR2.out.cell 5).trans (stV_c c r n 5 HC.out (by omega));have c6 : w2.cell? ⟨b, 6, none⟩ = some (.int .u32 (wd c 6 : Nat)) := (HR2.out.cell 6).trans (stV_c c r n 6 HC.out (by omega));have c7 : w2.cell? ⟨b, 7, none⟩ = some (.int .u32 (wd c 7 : Nat)) := (HR2.out.cell 7).trans (stV_c c r n 7 HC.out (by omega))
  go_wp2
  go_quiet (fail)
  go_wp2
  go_quiet (fail)
  go_wp2
  clear c0 c1 c2 c3 c4 c5 c6 c7
  go_loopw [5, 6, 7, 8, 9, 10, 11, 12, 54] (fun a1 b1 c1 d1 e1 f1 g1 h1 i wr => ∃ (k : Nat) (v : V8), k ≤ 64 ∧ i = .int .i64 k ∧ Hid (rnds (v8 c) (sched r) k = v) ∧ a1 = .int .u32 (v.a : Int) ∧ b1 = .int .u32 (v.b : Int) ∧ c1 = .int .u32 (v.c : Int) ∧ d1 = .int .u32 (v.d : Int) ∧ e1 = .int .u32 (v.e : Int) ∧ f1 = .int .u32 (v.f : Int) ∧ g1 = .int .u32 (v.g : Int) ∧ h1 = .int .u32 (v.h : Int)
      ∧ Hid (Row wr b t (stV c r n)) ∧ Hid (Row wr w1.heap.size 136 (arrU (sched r))) ∧ Hid (KTab wr) ∧ Hid (Below w.heap.size w wr)) (fun _ _ _ _ _ _ _ _ i _ => 64 - (intOf i).toNat)
  case atStart => exact ⟨0, v8 c, by omega, rfl, Lib.hid rfl, rfl, rfl, rfl, rfl, rfl, rfl, rfl, rfl, HR2, HW, HK2, Lib.hid (below_draws (below_draws HB.out _) _)⟩
  case round =>
    clear HR2 HW HK2 HB;obtain ⟨k, v, hk, rfl, HV, rfl, rfl, rfl, rfl, rfl, rfl, rfl, rfl, HR2, HW, HK2, HB⟩ := hrel;have hok := rnds_ok (v8 c) (sched r) (v8_ok c HLT.out) k;rw [HV.out] at hok;obtain ⟨va, vb, vc, vd, ve, vf, vg, vh⟩ := v;obtain ⟨o1, o2, o3, o4, o5, o6, o7, o8⟩ := hok;simp only at o1 o2 o3 o4 o5 o6 o7 o8
    by_cases hlt : k < 64
    · have hck : wr.cell? ⟨2, k, none⟩ = some (.int .u32 (wd kk k : Nat)) := HK2.out k hlt;have hcw : wr.cell? ⟨w1.heap.size, k, none⟩ = some (.int .u32 (wd (sched r) k : Nat)) := (HW.out.cell k).trans (arrU_get _ _ (by unfold sched; rw [spB_len]; omega));have hk64 : (k : Int) < 64 := by omega
      go_wp2_with (go_at_call 71; refine (right_int _ _ _ (by omega) (by omega) (by omega)).mono ?_; rintro e w' ⟨rfl, rfl⟩)
      go_quiet (fail)
      go_wp2_with (go_at_call 71; refine (right_int _ _ _ (by omega) (by omega) (by omega)).mono ?_; rintro e w' ⟨rfl, rfl⟩)
      go_roundw
      case rel =>
        refine ⟨k + 1, step ⟨va, vb, vc, vd, ve, vf, vg, vh⟩ (wd kk k) (wd (sched r) k), by omega, by go_num, Lib.hid (by rw [← HV.out]; rfl), ?_, rfl, rfl, rfl, ?_, rfl, rfl, rfl, HR2, HW, HK2, Lib.hid (below_draws HB.out _)⟩
        · rw [bs0_bits _ o1, bs1_bits _ o5, chs_bits _ _ _ o5 o6 o7, maj_bits _ _ _ o1 o2 o3, sum_a]; rfl
        · rw [bs1_bits _ o5, chs_bits _ _ _ o5 o6 o7, sum_e]; rfl
      case measure => simp [intOf]; omega
    · have HV64 := Lib.hid (show rnds (v8 c) (sched r) 64 = ⟨va, vb, vc, vd, ve, vf, vg, vh⟩ by rw [← HV.out, show k = 64 by omega])
      go_wp2
      go_loopw [128] (fun i wr => ∃ q : Nat, q ≤ 8 ∧ i = .int .i64 q ∧ Hid (Row wr b t (stV (mix c ⟨va, vb, vc, vd, ve, vf, vg, vh⟩ q) r n)) ∧ Hid (Only b w wr)) (fun i _ => 8 - (intOf i).toNat)
      case atStart => exact ⟨0, by omega, rfl, HR2, Lib.hid (Only.of_below HB.out)⟩
      case round =>
        clear HR2 HB HW HK2 HV hlt hk;obtain ⟨q, hq, rfl, HR2, HO⟩ := hrel
        by_cases hlt : q < 8
        · have hix := run_index8 wr ⟨va, vb, vc, vd, ve, vf, vg, vh⟩ q hlt;simp only at hix;obtain ⟨x, hx⟩ : ∃ x, wd (V8.list ⟨va, vb, vc, vd, ve, vf, vg, vh⟩) q = x := ⟨_, rfl⟩;rw [hx] at hix;have HX := Lib.hid hx;have hcell : wr.cell? ⟨b, q, none⟩ = some (.int .u32 (wd c q : Nat)) := ((HR2.out.cell q).trans (stV_c _ r n q (by rw [mix_len]; exact HC.out) hlt)).trans (by rw [mix_at _ _ _ _ (Nat.le_refl _)]; rfl);have hfr := HR2.out.frozen q;have hq8 : (q : Int) < 8 := by omega
          clear hx
          go_wp2
          go_still_tail 9, (by kernel_rfl)
          change wpList _ _ _ _ _ wr.drew
          go_wp2
          go_roundw
          case rel =>
            refine ⟨q + 1, by omega, by go_num, Lib.hid ?_, Lib.hid (HO.out.setCell _).drew⟩;have h := HR2.out.set q (u32V ((wd c q + x) % 4294967296));rw [stV_set _ _ _ _ _ (by rw [mix_len]; exact HC.out) hlt, ← HX.out] at h;rw [← HX.out, sum2];exact h
          case measure => simp [intOf]; omega
        · have HQ := Lib.hid (show q = 8 by omega)
          go_wp2
          go_end0
          refine ⟨rfl, ?_, HO.out⟩;have h := HR2.out;rw [HQ.out, ← HV64.out] at h;exact h
end Go.Proofs.YtcamanopfhbchaaDoor.Sha
end
section
namespace Go.Proofs.YtcamanopfhbchaaDoor.Sha
open Go.RowKit
structure Inv (l : List UInt8) (c : List Nat) (r : List UInt8) : Prop where
  hc : c = blocks l (l.length / 64)
  hr : r.length = 64
  rest : r.take (l.length % 64) = l.drop (64 * (l.length / 64))
theorem comp_len (c : List Nat) (r : List UInt8) : (comp c r).length = c.length := mix_len _ _ _
theorem mix_lt (c : List Nat) (v : V8) (h : ∀ i, wd c i < 4294967296) (k i : Nat) : wd (mix c v k) i < 4294967296 := by
  induction k with
  | zero => exact h i
  | succ k ih => exact wd_set_lt _ _ _ _ (Nat.mod_lt _ (by omega)) ih
theorem blocks_len (l : List UInt8) (k : Nat) : (blocks l k).length = 8 := by
  induction k with
  | zero => rfl
  | succ k ih => rw [blocks, comp_len, ih]
theorem hh_lt (i : Nat) : wd hh i < 4294967296 := by
  rcases Nat.lt_or_ge i 8 with h | h
  · have : ∀ i, i < 8 → wd hh i < 4294967296 := by decide
    exact this i h
  · unfold wd; rw [List.getD_eq_getElem?_getD, List.getElem?_eq_none (by simpa [hh] using h)]; simp
theorem blocks_lt (l : List UInt8) (k i : Nat) : wd (blocks l k) i < 4294967296 := by
  induction k with
  | zero => exact hh_lt i
  | succ k ih => exact mix_lt _ _ (fun i => by
      have : ∀ i, wd (blocks l k) i < 4294967296 := by
        clear ih i
        induction k with
        | zero => exact hh_lt
        | succ k ih => exact fun i => mix_lt _ _ ih _ _
      exact this i) _ _
theorem blocks_app (l m : List UInt8) (k : Nat) (h : 64 * k ≤ l.length) : blocks (l ++ m) k = blocks l k := by
  induction k with
  | zero => rfl
  | succ k ih =>
    rw [blocks, blocks, ih (by omega), List.drop_append_of_le_length (by omega), List.take_append_of_le_length (by rw [List.length_drop]; omega)]
theorem inv_part (l u r : List UInt8) (c : List Nat) (h : Inv l c r) (hu : l.length % 64 + u.length < 64) :
    Inv (l ++ u) c (r.take (l.length % 64) ++ u ++ r.drop (l.length % 64 + u.length)) := by
  have e1 : (l ++ u).length / 64 = l.length / 64 := by rw [List.length_append]; omega
  have e2 : (l ++ u).length % 64 = l.length % 64 + u.length := by rw [List.length_append]; omega
  have hr := h.hr;refine ⟨by rw [e1, blocks_app _ _ _ (by omega)]; exact h.hc, by simp [hr]; omega, ?_⟩;rw [e2, e1, h.rest, List.drop_append_of_le_length (by omega), List.take_left' (by simp; omega)]
theorem inv_full (l u r : List UInt8) (c : List Nat) (h : Inv l c r) (hu : l.length % 64 + u.length = 64) :
    Inv (l ++ u) (comp c (r.take (l.length % 64) ++ u ++ r.drop (l.length % 64 + u.length))) (r.take (l.length % 64) ++ u ++ r.drop (l.length % 64 + u.length)) := by
  have hr := h.hr;have e1 : (l ++ u).length / 64 = l.length / 64 + 1 := by rw [List.length_append]; omega
  have e2 : (l ++ u).length % 64 = 0 := by rw [List.length_append]; omega
  have e3 : r.take (l.length % 64) ++ u ++ r.drop (l.length % 64 + u.length) = (l ++ u).drop (64 * (l.length / 64)) := by
    have d : r.drop (l.length % 64 + u.length) = [] := List.drop_of_length_le (by omega);rw [h.rest, List.drop_append_of_le_length (by omega), d, List.append_nil]
  have e4 : ((l ++ u).drop (64 * (l.length / 64))).length = 64 := by simp; omega
  refine ⟨?_, by rw [e3, e4], ?_⟩
  · rw [e1, blocks, blocks_app _ _ _ (by omega), ← h.hc, e3, List.take_of_length_le (by omega)]
  · have d2 : (l ++ u).drop (64 * (l.length / 64 + 1)) = [] := List.drop_of_length_le (by rw [List.length_append]; omega);rw [e2, e1, d2]; rfl
theorem stV_splice (c : List Nat) (r u : List UInt8) (n p : Nat) (hc : c.length = 8) (hr : r.length = 64) (h : p + u.length ≤ 64) :
    ((stV c r n).toList.take (8 + p) ++ u.map bV ++ (stV c r n).toList.drop (8 + p + u.length)).toArray = stV c (r.take p ++ u ++ r.drop (p + u.length)) n := by
  have e1 : (stV c r n).toList = c.map u32V ++ (r.map bV ++ [Value.int .i64 (n : Int)]) := by simp [stV]
  have t1 : (c.map u32V ++ (r.map bV ++ [Value.int .i64 (n : Int)])).take (8 + p) = c.map u32V ++ (r.take p).map bV := by
    rw [List.take_append, List.take_of_length_le (by simp; omega), List.take_append_of_le_length (by simp; omega)];simp [hc]
  have t2 : (c.map u32V ++ (r.map bV ++ [Value.int .i64 (n : Int)])).drop (8 + p + u.length) = (r.drop (p + u.length)).map bV ++ [Value.int .i64 (n : Int)] := by
    rw [List.drop_append, List.drop_of_length_le (by simp; omega), List.nil_append, List.drop_append_of_le_length (by simp; omega)];rw [List.map_drop]; simp [hc, show 8 + p + u.length - 8 = p + u.length by omega]
  rw [e1, t1, t2];simp [stV]
theorem stV_size (c : List Nat) (r : List UInt8) (n m : Nat) (hc : c.length = 8) (hr : r.length = 64) : (stV c r n).setIfInBounds 72 (.int .i64 (m : Int)) = stV c r m := by
  simp [stV, hc, hr]
theorem wpList_copy_strA {P : Program} {w : World} {ops : Array Oper} {rest : List Oper} {o : Oper} {a : Act} {Q : Exit → Act → World → Prop} (hgd : o.guard = none) (d s : Operand) (dT sT : TypeId)
    (ho : o.op = .call { callee := .builtin .copy, args := #[d, s], argTypes := #[dT, sT] }) (elem : TypeId) (hu : P.underlying dT = some (.slice elem)) (hsz : (P.info? elem).map (·.size) = some 1)
    (g off dLen dCap : Nat) (str : ByteArray) (hd : a.eval d = .slice (some ⟨g, off, none⟩) dLen dCap) (hs : a.eval s = .string str)
    (cur : Array Value) (t : TypeId) (hg : Row w g t cur) (m : Nat) (hm : Nat.min str.size dLen = m) (hfit : off + m ≤ cur.size)
    (h : ∀ w', Row w' g t (cur.toList.take off ++ (str.data.toList.take m).map bV ++ cur.toList.drop (off + m)).toArray → Only g w w' → wpList P ops Q rest (a.put o.dst (.int .i64 (m : Int))) w') :
    wpList P ops Q (o :: rest) a w := by
  refine wpList_plain hgd fun K hK => ?_
  have hml : m ≤ str.data.toList.length := by
    rw [← hm]; exact Nat.min_le_left _ _
  have hst := run_storeCells_at P g off t ((str.data.toList.take m).map bV) 0 cur w hg (by simp only [List.length_map, List.length_take]; omega) (fun v hv => by obtain ⟨x, _, rfl⟩ := List.mem_map.1 hv; rfl);have hlen : ((str.data.toList.take m).map bV).length = m := by simp only [List.length_map, List.length_take]; omega
  rw [hlen] at hst
  have hfc : ((str.extract 0 m).data.map fun b => Value.int .u8 (b.toNat : Int)).toList = (str.data.toList.take m).map bV := by
    simp [ByteArray.data_extract]
    rfl
  obtain ⟨X, hX⟩ : ∃ X, (cur.toList.take off ++ (str.data.toList.take m).map bV ++ cur.toList.drop (off + m)).toArray = X := ⟨_, rfl⟩
  have hrun : (Builtin.copy_ #[dT, sT] o.type #[.slice (some ⟨g, off, none⟩) dLen dCap, .string str]).run P w = .ok (goInt (m : Int)) (w.setRow g X) := by
    cases hq : P.info? elem with
    | none => simp [hq] at hsz
    | some i =>
      have hi : i.size = 1 := by simpa [hq] using hsz
      rw [Nat.add_zero, hX] at hst;simp [Builtin.copy_, Sem.run_bind, run_underlying hu, Builtin.lenOf, Builtin.firstCells, sizeOf, typeInfo, hq, hm, -ByteArray.data_extract, -Array.toList_map];rw [hfc, hst]
      rfl
  rw [hX] at h;unfold Oper.wp;simp [execOp, ho, resolve, invoke, builtin, hd, hs, hrun, Result.andThen];exact hK _ _ (h _ (setRow_heap w g cur _ t _ hg) (setRow_only w g _))
theorem ext_drop (u : ByteArray) (m : Nat) : (u.extract m u.size).data.toList = u.data.toList.drop m := by
  rw [ByteArray.data_extract, Array.toList_extract, List.extract_eq_take_drop, List.take_of_length_le];rw [List.length_drop, Array.length_toList]; exact Nat.le_refl _
theorem ext_size (u : ByteArray) (m : Nat) : (u.extract m u.size).size = u.size - m := by simp [ByteArray.size_extract]
theorem KTab.only {b : Nat} {w w' : World} (h : KTab w) (ho : Only b w w') (hb : b ≠ 2) (hk1 : 2 < w.heap.size) : KTab w' :=
  fun i hi => (ho.cell (p := ⟨2, i, none⟩) hk1 (fun e => hb e.symm)).trans (h i hi)
theorem join_split (l1 l u : List UInt8) (m : Nat) (h : l1 ++ u = l) : l1 ++ u.take m ++ u.drop m = l := by rw [List.append_assoc, List.take_append_drop, h]
def strSize : Value → Nat | .string u => u.size | _ => 0
theorem info8s : (Tryd.prog.info? 5).map (·.size) = some 1 := by kernel_rfl
set_option maxRecDepth 100000 in
set_option maxHeartbeats 400000 in
theorem add_any (b : Nat) (t : TypeId) (c : List Nat) (l r : List UInt8) (s : ByteArray) (w : World) (hb : b ≠ 2) (hk1 : 2 < w.heap.size) (hi : Inv l c r)
    (hsz : (l.length : Int) + (s.size : Int) ≤ 70368744177664) (hrow : Row w b t (stV c r l.length)) (hK : KTab w) :
    Calls Tryd.prog 61 #[.pointer (some ⟨b, 0, none⟩), .string s] w fun e w' => e = .returned (.tuple #[]) ∧ (∃ c' r', Inv (l ++ s.data.toList) c' r' ∧ Row w' b t (stV c' r' (l ++ s.data.toList).length)) ∧ Only b w w' := by
  have HR := Lib.hid hrow;have HKT := Lib.hid hK;have HI := Lib.hid hi;clear hrow hK hi
  go_enter Tryd.func61, Tryd.ntmps61
  go_wp2
  go_loopw [1] (fun x wr => ∃ (u : ByteArray) (l1 : List UInt8) (c1 : List Nat) (r1 : List UInt8), x = .string u ∧ Hid (l1 ++ u.data.toList = l ++ s.data.toList) ∧ Hid (Inv l1 c1 r1) ∧ Hid (Row wr b t (stV c1 r1 l1.length)) ∧ Hid (Only b w wr)) (fun x _ => strSize x)
  case atStart => exact ⟨s, l, c, r, rfl, Lib.hid rfl, HI, HR, Lib.hid (Only.refl _ _)⟩
  case round =>
    clear HI HR;obtain ⟨u, l1, c1, r1, rfl, HL, HI, HR, HO⟩ := hrel;obtain ⟨n, hn⟩ : ∃ n, l1.length = n := ⟨_, rfl⟩
    have hnu : (n : Int) + (u.size : Int) ≤ 70368744177664 := by
      have := congrArg List.length HL.out;simp only [List.length_append, hn] at this;have e1 : u.data.toList.length = u.size := rfl;have e2 : s.data.toList.length = s.size := rfl;omega
    rw [hn] at HR;have HN := Lib.hid hn;clear hn hsz
    by_cases hlt : 0 < u.size
    · have HC8 : Hid (c1.length = 8) := Lib.hid (by rw [HI.out.hc]; exact blocks_len _ _);have HLT : Hid (∀ i, wd c1 i < 4294967296) := Lib.hid (by rw [HI.out.hc]; exact blocks_lt _ _);obtain ⟨p, hp⟩ : ∃ p, n % 64 = p := ⟨_, rfl⟩;have HP := Lib.hid hp;have hp64 : p < 64 := by omega
      obtain ⟨L, hL⟩ : ∃ L, 64 - p = L := ⟨_, rfl⟩;have HLL := Lib.hid hL;obtain ⟨m, hm⟩ : ∃ m, Nat.min u.size L = m := ⟨_, rfl⟩;have hmu : m ≤ u.size := by rw [← hm]; exact Nat.min_le_left _ _
      have hmL : p + m ≤ 64 := by have : m ≤ L := by rw [← hm]; exact Nat.min_le_right _ _
                                  omega
      have hm0 : 0 < m := by rw [← hm]; exact Nat.lt_min.2 ⟨hlt, by omega⟩
      have HM := Lib.hid hm;have hcn : wr.cell? ⟨b, 72, none⟩ = some (.int .i64 (n : Int)) := (HR.out.cell 72).trans (stV_n c1 r1 n HC8.out HI.out.hr);have hfn := HR.out.frozen 72;have hsl := fun v : World => run_cut64 v b 8 p (p : Int) L rfl hL hp64;have ht1 : (n : Int) % 64 = (p : Int) := by omega
      have ht2 : (n : Int).tmod 64 = (p : Int) := by rw [Int.tmod_eq_emod_of_nonneg (by omega)]; exact ht1
      have ht3 : IntKind.i64.wrap (p : Int) = (p : Int) := IntWalk.i64_in _ (by omega);clear hp hL hm
      go_wp2
      go_still_tail 10, (by kernel_rfl)
      change wpList _ _ _ _ _ wr.drew;refine wpList_copy_strA rfl (.tmp 16) (.tmp 17) 107 9 rfl 5 Tryd.underlying107 info8s b (8 + p) L L u rfl rfl (stV c1 r1 n) t HR.out m HM.out (by simp [stV, HC8.out, HI.out.hr]; omega) ?_;intro w2 hw2 ho2;obtain ⟨r2, hr2⟩ : ∃ r2, r1.take p ++ u.data.toList.take m ++ r1.drop (p + m) = r2 := ⟨_, rfl⟩;have hul : (u.data.toList.take m).length = m := by rw [List.length_take]; exact Nat.min_eq_left hmu
      have HR2 : Hid (Row w2 b t (stV c1 r2 n)) := Lib.hid (by
        have h := stV_splice c1 r1 (u.data.toList.take m) n p HC8.out HI.out.hr (by rw [hul]; exact hmL);rw [hul, hr2] at h
        rw [← h]; exact hw2)
      have H2 := Lib.hid hr2;have HUL := Lib.hid hul;have HRL2 : Hid (r2.length = 64) := Lib.hid (by rw [← hr2]; have := HI.out.hr; simp only [List.length_append, List.length_take, List.length_drop] at hul ⊢; omega);have HO2 := Lib.hid (HO.out.drew.trans ho2);have hcn2 : w2.cell? ⟨b, 72, none⟩ = some (.int .i64 (n : Int)) := (HR2.out.cell 72).trans (stV_n c1 r2 n HC8.out HRL2.out);have hfn2 := HR2.out.frozen 72;clear hw2 ho2 hcn hfn hsl hr2 hul HO ht1 ht2 ht3;have hmi : (m : Int) ≤ (u.size : Int) := by omega
      have hnm : ((n : Int) + (m : Int)).toNat = n + m := by omega
      have HMod := Lib.hid (show (n + m) % 64 = (p + m) % 64 by have := HP.out; omega);have HLn : Hid ((l1 ++ u.data.toList.take m).length = n + m) := Lib.hid (by rw [List.length_append, HUL.out, HN.out])
      have HR3 : Hid (Row (w2.setCell ⟨b, 72, none⟩ (.int .i64 ((n : Int) + (m : Int)))) b t (stV c1 r2 (n + m))) := Lib.hid (by
        have h := HR2.out.set 72 (.int .i64 ((n + m : Nat) : Int));rw [stV_size _ _ _ _ HC8.out HRL2.out] at h
        exact h)
      have HO3 : Hid (Only b w (w2.setCell ⟨b, 72, none⟩ (.int .i64 ((n : Int) + (m : Int))))) := Lib.hid (HO2.out.setCell _);have HJ : Hid (l1 ++ u.data.toList.take m ++ (u.extract m u.size).data.toList = l ++ s.data.toList) := Lib.hid (by rw [ext_drop]; exact join_split _ _ _ _ HL.out);have HZ : Hid (strSize (.string (u.extract m u.size)) < strSize (.string u)) := Lib.hid (by simp only [strSize, ext_size]; omega)
      by_cases hfull : p + m = 64
      · have ht : (((n : Int) + (m : Int)) % 64 == 0) = true := beq_iff_eq.2 (by have := HMod.out; omega)
        have HI2 : Hid (Inv (l1 ++ u.data.toList.take m) (comp c1 r2) r2) := Lib.hid (by
          have h := inv_full l1 (u.data.toList.take m) r1 c1 HI.out (by rw [HUL.out, HN.out, HP.out]; exact hfull);rw [HN.out, HP.out, HUL.out, H2.out] at h
          exact h)
        go_wp2
        obtain ⟨w3, hw3⟩ : ∃ v, w2.setCell ⟨b, 72, none⟩ (.int .i64 ((n : Int) + (m : Int))) = v := ⟨_, rfl⟩;rw [hw3] at HR3 HO3 ⊢;clear hw3 hcn2 hfn2
        go_still_tail 6, (by kernel_rfl)
        change wpList _ _ _ _ _ w3.drew
        go_wp2_with (go_at_call 69; refine (take_any b t c1 r2 (n + m) w3.drew hb (Nat.lt_of_lt_of_le hk1 HO3.out.size) HC8.out HRL2.out HLT.out (show Row w3.drew b t _ from HR3.out) (HKT.out.only HO3.out.drew hb hk1)).mono ?_; rintro e w4 ⟨rfl, hr4, ho4⟩; refine Hid.out ?_)
        refine Lib.hid ?_;have HR4 := Lib.hid hr4;have HO4 := Lib.hid (HO3.out.drew.trans ho4);clear hr4 ho4
        go_wp2
        exact ⟨⟨_, l1 ++ u.data.toList.take m, comp c1 r2, r2, rfl, HJ, HI2, Lib.hid (by rw [HLn.out]; exact HR4.out), HO4⟩, HZ.out⟩
      · have ht : (((n : Int) + (m : Int)) % 64 == 0) = false := beq_eq_false_iff_ne.2 (by have := HMod.out; omega)
        have HI2 : Hid (Inv (l1 ++ u.data.toList.take m) c1 r2) := Lib.hid (by
          have h := inv_part l1 (u.data.toList.take m) r1 c1 HI.out (by rw [HUL.out, HN.out, HP.out]; omega);rw [HN.out, HP.out, HUL.out, H2.out] at h
          exact h)
        go_wp2
        exact ⟨⟨_, l1 ++ u.data.toList.take m, c1, r2, rfl, HJ, HI2, Lib.hid (by rw [HLn.out]; exact HR3.out), HO3⟩, HZ.out⟩
    · have HE : Hid (u.data.toList = []) := Lib.hid (List.eq_nil_of_length_eq_zero (by rw [Array.length_toList]; exact Nat.eq_zero_of_not_pos hlt))
      go_wp2
      go_end0
      refine ⟨rfl, ⟨c1, r1, ?_, ?_⟩, HO.out⟩
      · rw [← HL.out, HE.out, List.append_nil]; exact HI.out
      · rw [← HL.out, HE.out, List.append_nil, HN.out]; exact HR.out
end Go.Proofs.YtcamanopfhbchaaDoor.Sha
end
section
namespace Go.Proofs.YtcamanopfhbchaaDoor.Sha
open Go.RowKit
def FTab (w : World) : Prop := ∀ i, i < 8 → w.cell? ⟨1, i, none⟩ = some (u32V (wd hh i))
structure Tabs (w : World) : Prop where
  k : KTab w
  f : FTab w
  size : 3 ≤ w.heap.size
theorem Tabs.only {b : Nat} {w w' : World} (h : Tabs w) (ho : Only b w w') (hb : 3 ≤ b) : Tabs w' :=
  ⟨h.k.only ho (by have : 2 < 3 := by decide
                   omega) (by have := h.size; have : 2 < 3 := by decide
                              omega),
   fun i hi => (ho.cell (p := ⟨1, i, none⟩) (by show 1 < _; have := h.size; omega) (by show 1 ≠ _; omega)).trans (h.f i hi), by have := h.size; have := ho.size; omega⟩
theorem Tabs.below {B : Nat} {w w' : World} (h : Tabs w) (hb : Below B w w') (hB : 3 ≤ B) : Tabs w' :=
  ⟨fun i hi => (hb.cell (p := ⟨2, i, none⟩) (by show 2 < _; omega)).trans (h.k i hi),
   fun i hi => (hb.cell (p := ⟨1, i, none⟩) (by show 1 < _; omega)).trans (h.f i hi), by have := h.size; have := hb.size; omega⟩
def StW (w : World) (b : Nat) (t : TypeId) (l : List UInt8) : Prop := ∃ c r, c.length = 8 ∧ r.length = 64 ∧ (l = [] ∨ Inv l c r) ∧ Row w b t (stV c r l.length)
theorem StW.lt {w : World} {b : Nat} {t : TypeId} {l : List UInt8} (h : StW w b t l) : b < w.heap.size := by obtain ⟨c, r, _, _, _, h⟩ := h; exact h.lt
theorem StW.only {w w' : World} {b g : Nat} {t : TypeId} {l : List UInt8} (h : StW w b t l) (ho : Only g w w') (hne : b ≠ g) : StW w' b t l := by
  obtain ⟨c, r, h1, h2, h3, h4⟩ := h;exact ⟨c, r, h1, h2, h3, ho.row h4 hne h4.lt⟩
theorem StW.below {w w' : World} {b B : Nat} {t : TypeId} {l : List UInt8} (h : StW w b t l) (ho : Below B w w') (hne : b < B) : StW w' b t l := by
  obtain ⟨c, r, h1, h2, h3, h4⟩ := h;exact ⟨c, r, h1, h2, h3, h4.below ho hne⟩
def SArg (w : World) (B : Nat) (A : Option Addr) (n : Nat) (ss : Nat → ByteArray) : Prop := ∀ k, k < n → ∃ b o, A = some ⟨b, o, none⟩ ∧ b < w.heap.size ∧ b ≠ B ∧ w.cell? ⟨b, o + k, none⟩ = some (.string (ss k))
def cat (ss : Nat → ByteArray) : Nat → List UInt8
  | 0 => []
  | k + 1 => cat ss k ++ (ss k).data.toList
theorem cat_le (ss : Nat → ByteArray) (k n : Nat) (h : k ≤ n) : (cat ss k).length ≤ (cat ss n).length := by
  induction n with
  | zero => have : k = 0 := by omega
            subst this; exact Nat.le_refl _
  | succ n ih =>
    by_cases e : k = n + 1
    · subst e; exact Nat.le_refl _
    · have := ih (by omega);rw [cat, List.length_append]; omega
theorem wpList_load_cellsA {P : Program} {ops : Array Oper} {rest : List Oper} {o : Oper} {a : Act} {w : World} {Q : Exit → Act → World → Prop} (hgd : o.guard = none) (ty : TypeId) (x : Operand) (ho : o.op = .load ty x)
    (g : Nat) (hx : a.eval x = .pointer (some ⟨g, 0, none⟩)) (cs : List Value) (d : TypeDesc) (hcell : ∀ j v, cs[j]? = some v → w.cell? ⟨g, j, none⟩ = some v)
    (hu : P.underlying ty = some d) (hd : (match d with | .struct _ | .array _ _ => true | _ => false) = true) (hi : (P.info? ty).map (·.size) = some cs.length)
    (h : wpList P ops Q rest (a.put o.dst (.agg cs.toArray)) w) : wpList P ops Q (o :: rest) a w := by
  refine wpList_plain hgd fun K hK => ?_
  have hl : (loadCells ⟨g, 0, none⟩ cs.length).run P w = .ok cs.toArray w :=
    run_loadCells_list (P := P) w ⟨g, 0, none⟩ cs (fun j v hv => by
      have hadd : (⟨g, 0, none⟩ : Addr).add j = ⟨g, j, none⟩ := by unfold Addr.add; split <;> simp_all
      rw [hadd]; exact hcell j v hv)
  have hrun : (loadVar ty ⟨g, 0, none⟩).run P w = .ok (.agg cs.toArray) w := by
    cases hq : P.info? ty with
    | none => simp [hq] at hi
    | some i =>
      have hs : i.size = cs.length := by simpa [hq] using hi
      have hagg : (isAgg ty).run P w = .ok true w := by
        unfold isAgg;rw [Sem.run_bind, run_underlying hu w];cases d <;> simp_all
      simp [loadVar, Sem.run_bind, hagg, sizeOf, typeInfo, hq, hs, hl]
  unfold Oper.wp execOp;simp only [ho, hx, Instr.loadAt, Instr.sureAddr, Sem.run_bind, Sem.run_pure, Result.andThen_ok, hrun];exact hK _ _ h
theorem wpList_store_partA {P : Program} {ops : Array Oper} {rest : List Oper} {o : Oper} {a : Act} {w : World} {Q : Exit → Act → World → Prop} (hgd : o.guard = none) (ty : TypeId) (x y : Operand) (ho : o.op = .store ty x y)
    (g : Nat) (cells : Array Value) (hx : a.eval x = .pointer (some ⟨g, 0, none⟩)) (hy : a.eval y = .agg cells)
    (t : TypeId) (old : Array Value) (hg : Row w g t old) (hi : (P.info? ty).map (·.size) = some cells.size)
    (hold : cells.size ≤ old.size) (h1 : ∀ v ∈ cells.toList, v.oneCell' = true)
    (h : ∀ w', Row w' g t (cells.toList ++ old.toList.drop cells.size).toArray → Only g w w' → wpList P ops Q rest (a.put o.dst undef) w') : wpList P ops Q (o :: rest) a w := by
  refine wpList_plain hgd fun K hK => ?_;have hst := run_storeCells_at P g 0 t cells.toList 0 old w hg (by simpa using hold) h1
  have hrun : (storeVar ty ⟨g, 0, none⟩ (.agg cells)).run P w = .ok () (w.setRow g (cells.toList ++ old.toList.drop cells.size).toArray) := by
    cases hq : P.info? ty with
    | none => simp [hq] at hi
    | some i =>
      have hs : cells.size = i.size := by simp [hq] at hi; omega
      rw [show (0 : Nat) + 0 = 0 by rfl, List.take_zero, List.nil_append, Nat.zero_add, Array.length_toList] at hst;simp only [hs] at hst;simp [storeVar, sizeOf, typeInfo, hq, Value.cells, hs, hst]
  unfold Oper.wp execOp;simp only [ho, hx, hy, Instr.storeAt, Instr.sureAddr, Sem.run_bind, Sem.run_pure, Result.andThen_ok, hrun];exact hK _ _ (h _ (setRow_heap w g old _ t _ hg) (setRow_only w g _))
theorem stV_first (c d : List Nat) (r : List UInt8) (n : Nat) (hc : c.length = 8) (hd : d.length = 8) : ((arrU d).toList ++ (stV c r n).toList.drop (arrU d).size).toArray = stV d r n := by
  have e : (arrU d).size = 8 := by simp [arrU, hd]
  rw [e];simp only [stV, arrU, List.drop_append, List.length_map, hc];rw [List.drop_of_length_le (by simp [hc])];simp
set_option maxRecDepth 100000 in
set_option maxHeartbeats 400000 in
theorem write_any (b : Nat) (t : TypeId) (l : List UInt8) (A : Option Addr) (n cp : Nat) (ss : Nat → ByteArray) (w : World) (hb : 3 ≤ b) (hT : Tabs w) (hst : StW w b t l) (hA : SArg w b A n ss)
    (hsz : ((l.length + (cat ss n).length : Nat) : Int) ≤ 70368744177664) (hn : (n : Int) ≤ 9223372036854775807) :
    Calls Tryd.prog 46 #[.pointer (some ⟨b, 0, none⟩), .slice A n cp] w fun e w' => e = .returned (.tuple #[]) ∧ StW w' b t (l ++ cat ss n) ∧ Only b w w' := by
  have HT := Lib.hid hT;have HA := Lib.hid hA;have HSZ := Lib.hid hsz;obtain ⟨c, r, hc, hr, hi, hrow⟩ := hst;have HC := Lib.hid hc;have HRL := Lib.hid hr;have HR := Lib.hid hrow;have hcn : w.cell? ⟨b, 72, none⟩ = some (.int .i64 (l.length : Int)) := (HR.out.cell 72).trans (stV_n c r l.length HC.out HRL.out);have H8 : Hid ((Tryd.prog.info? 89).map (·.size) = some 8) := Lib.hid (by kernel_rfl)
  have HF : Hid (∀ j v, (hh.map u32V)[j]? = some v → w.cell? ⟨1, j, none⟩ = some v) := Lib.hid (fun j v hv => by
    have hj : j < 8 := by have := (List.getElem?_eq_some_iff.1 hv).1; simpa [hh] using this
    rw [HT.out.f j hj, ← hv, List.getElem?_map, wd, List.getD_eq_getElem?_getD, List.getElem?_eq_getElem (by simpa [hh] using hj)]; rfl)
  clear hT hA hsz hc hr hrow
  have hi : l = [] ∨ (l ≠ [] ∧ Inv l c r) := by
    by_cases e : l = []
    · exact .inl e
    · exact .inr ⟨e, hi.resolve_left e⟩
  rcases hi with hl | ⟨hne0, hi⟩
  · have HL := Lib.hid hl;have h0 : (l.length : Int) = 0 := by rw [hl]; rfl
    rw [h0] at hcn;clear hl h0
    go_enter Tryd.func46, Tryd.ntmps46
    go_wp2_with (first | (refine wpList_load_cellsA rfl 89 (.global 1) rfl 1 rfl (hh.map u32V) _ HF.out Tryd.underlying89 rfl H8.out ?_) | (refine wpList_store_partA rfl 89 (.tmp 16) (.tmp 14) rfl b (arrU hh) rfl rfl t (stV c r l.length) HR.out H8.out (by simp [stV, arrU, HC.out, HRL.out, hh]) (by simp [arrU, u32V, Value.oneCell']) ?_; intro w2 hw2 ho2; refine Hid.out ?_))
    refine Lib.hid ?_;obtain ⟨c0, hc0⟩ : ∃ c0, hh = c0 := ⟨_, rfl⟩;have HI : Hid (Inv l c0 r) := Lib.hid (by rw [HL.out, ← hc0]; exact ⟨rfl, HRL.out, rfl⟩);have HR0 : Hid (Row w2 b t (stV c0 r l.length)) := Lib.hid (by rw [← stV_first c c0 r l.length HC.out (by rw [← hc0]; rfl), ← hc0]; exact hw2);have HO0 := Lib.hid ho2;clear hw2 ho2 hc0
    go_wp2
    go_loopw [19] (fun i wr => ∃ (k : Nat) (c1 : List Nat) (r1 : List UInt8), k ≤ n ∧ i = .int .i64 k ∧ Hid (Inv (l ++ cat ss k) c1 r1) ∧ Hid (Row wr b t (stV c1 r1 (l ++ cat ss k).length)) ∧ Hid (Only b w wr)) (fun i _ => n - (intOf i).toNat)
    case atStart => exact ⟨0, c0, r, by omega, rfl, Lib.hid (by rw [cat, List.append_nil]; exact HI.out), Lib.hid (by rw [cat, List.append_nil]; exact HR0.out), HO0⟩
    case round =>
      clear HI HR0 HO0;obtain ⟨k, c1, r1, hk, rfl, HI, HR1, HO⟩ := hrel
      by_cases hlt : k < n
      · obtain ⟨b1, o1, rfl, hbl, hne, hc0⟩ := HA.out k hlt;have hc : wr.cell? ⟨b1, o1 + k, none⟩ = some (.string (ss k)) := (HO.out.cell (p := ⟨b1, o1 + k, none⟩) hbl hne).trans hc0;clear hc0
        have HZ : Hid ((((l ++ cat ss k).length : Nat) : Int) + ((ss k).size : Int) ≤ 70368744177664) := Lib.hid (by
          have h1 := cat_le ss (k + 1) n (by omega);have h2 := HSZ.out;rw [cat, List.length_append] at h1;rw [List.length_append];have e : (ss k).data.toList.length = (ss k).size := rfl
          omega)
        go_wp2_with (go_at_call 61; refine (add_any b t c1 (l ++ cat ss k) r1 (ss k) _ (by omega) (by have := HT.out.size; have := HO.out.size; omega) HI.out HZ.out HR1.out (HT.out.only HO.out hb).k).mono ?_; rintro e w3 ⟨rfl, ⟨c3, r3, hi3, hr3⟩, ho3⟩; refine Hid.out ?_)
        refine Lib.hid ?_;have HI3 := Lib.hid hi3;have HR3 := Lib.hid hr3;have HO3 := Lib.hid (HO.out.trans ho3);clear hi3 hr3 ho3
        go_wp2
        go_roundw
        case rel => exact ⟨k + 1, c3, r3, by omega, by go_num, Lib.hid (by rw [cat, ← List.append_assoc]; exact HI3.out), Lib.hid (by rw [cat, ← List.append_assoc]; exact HR3.out), HO3⟩
        case measure => simp [intOf]; omega
      · have HK := Lib.hid (show k = n by omega)
        go_wp2
        go_end0
        refine ⟨rfl, ⟨c1, r1, ?_, HI.out.hr, .inr ?_, ?_⟩, HO.out⟩
        · rw [HI.out.hc]; exact blocks_len _ _
        · rw [← HK.out]; exact HI.out
        · rw [← HK.out]; exact HR1.out
  · obtain ⟨c0, hc0⟩ : ∃ c0, c = c0 := ⟨_, rfl⟩;have HI : Hid (Inv l c0 r) := Lib.hid (by rw [← hc0]; exact hi);have HR0 : Hid (Row w b t (stV c0 r l.length)) := Lib.hid (by rw [← hc0]; exact HR.out);have HO0 := Lib.hid (Only.refl b w);clear hi hc0;have hl : ¬ (l.length : Int) = 0 := fun h => hne0 (List.eq_nil_of_length_eq_zero (by omega));have hlb : ((l.length : Int) == 0) = false := beq_eq_false_iff_ne.2 hl;have hlb2 : ((l.length : Nat) == 0) = false := beq_eq_false_iff_ne.2 (by omega);have hl2 : ¬ l.length = 0 := by omega
    go_enter Tryd.func46, Tryd.ntmps46
    go_wp2
    go_loopw [19] (fun i wr => ∃ (k : Nat) (c1 : List Nat) (r1 : List UInt8), k ≤ n ∧ i = .int .i64 k ∧ Hid (Inv (l ++ cat ss k) c1 r1) ∧ Hid (Row wr b t (stV c1 r1 (l ++ cat ss k).length)) ∧ Hid (Only b w wr)) (fun i _ => n - (intOf i).toNat)
    case atStart => exact ⟨0, c0, r, by omega, rfl, Lib.hid (by rw [cat, List.append_nil]; exact HI.out), Lib.hid (by rw [cat, List.append_nil]; exact HR0.out), HO0⟩
    case round =>
      clear HI HR0 HO0;obtain ⟨k, c1, r1, hk, rfl, HI, HR1, HO⟩ := hrel
      by_cases hlt : k < n
      · obtain ⟨b1, o1, rfl, hbl, hne, hc0⟩ := HA.out k hlt;have hc : wr.cell? ⟨b1, o1 + k, none⟩ = some (.string (ss k)) := (HO.out.cell (p := ⟨b1, o1 + k, none⟩) hbl hne).trans hc0;clear hc0
        have HZ : Hid ((((l ++ cat ss k).length : Nat) : Int) + ((ss k).size : Int) ≤ 70368744177664) := Lib.hid (by
          have h1 := cat_le ss (k + 1) n (by omega);have h2 := HSZ.out;rw [cat, List.length_append] at h1;rw [List.length_append];have e : (ss k).data.toList.length = (ss k).size := rfl
          omega)
        go_wp2_with (go_at_call 61; refine (add_any b t c1 (l ++ cat ss k) r1 (ss k) _ (by omega) (by have := HT.out.size; have := HO.out.size; omega) HI.out HZ.out HR1.out (HT.out.only HO.out hb).k).mono ?_; rintro e w3 ⟨rfl, ⟨c3, r3, hi3, hr3⟩, ho3⟩; refine Hid.out ?_)
        refine Lib.hid ?_;have HI3 := Lib.hid hi3;have HR3 := Lib.hid hr3;have HO3 := Lib.hid (HO.out.trans ho3);clear hi3 hr3 ho3
        go_wp2
        go_roundw
        case rel => exact ⟨k + 1, c3, r3, by omega, by go_num, Lib.hid (by rw [cat, ← List.append_assoc]; exact HI3.out), Lib.hid (by rw [cat, ← List.append_assoc]; exact HR3.out), HO3⟩
        case measure => simp [intOf]; omega
      · have HK := Lib.hid (show k = n by omega)
        go_wp2
        go_end0
        refine ⟨rfl, ⟨c1, r1, ?_, HI.out.hr, .inr ?_, ?_⟩, HO.out⟩
        · rw [HI.out.hc]; exact blocks_len _ _
        · rw [← HK.out]; exact HI.out
        · rw [← HK.out]; exact HR1.out
end Go.Proofs.YtcamanopfhbchaaDoor.Sha
end
section
namespace Go.Proofs.YtcamanopfhbchaaDoor.Sha
open Go.ChangeShapes Go.WideShapes Go.ChangeAt Go.RowKit
theorem own : ownKnob Tryd.prog.godebug = none := by kernel_rfl
theorem gF : Tryd.prog.globalNamed "lading/sha.first" = some 1 := by kernel_rfl
theorem gK : Tryd.prog.globalNamed "lading/sha.k" = some 2 := by kernel_rfl
theorem gFT : (Tryd.prog.globals[1]?).map (·.type) = some 89 := by kernel_rfl
theorem gKT : (Tryd.prog.globals[2]?).map (·.type) = some 136 := by kernel_rfl
theorem cellsU : Tryd.prog.cellsOf 87 = 1 := by kernel_rfl
theorem cellsF : Tryd.prog.cellsOf 89 = 8 := by kernel_rfl
theorem cellsK : Tryd.prog.cellsOf 136 = 64 := by kernel_rfl
def listed : List (String × DataW Unit) := [("lading/sha.first", Rows.laid_lading_sha_first), ("lading/sha.k", Rows.laid_lading_sha_k)]
theorem wd_int (l : List Nat) (i : Nat) (h : i < l.length) : (l.map Int.ofNat).getD i 0 = ((wd l i : Nat) : Int) := by
  simp [wd, List.getD_eq_getElem?_getD, List.getElem?_eq_getElem h]
theorem tabs_of_laid {W : World} (h : laidMetH Tryd.prog listed W) : Tabs W := by
  have h' : laidMet Tryd.prog listed W := h;have hF : Lib.TabIs Tryd.prog W "lading/sha.first" .u32 (hh.map Int.ofNat) := Lib.tabIs_of_head (rest := [("lading/sha.k", Rows.laid_lading_sha_k)]) gF gFT Tryd.underlying89 Tryd.underlying87 cellsU cellsF h';have hK : Lib.TabIs Tryd.prog W "lading/sha.k" .u32 (kk.map Int.ofNat) := Lib.tabIs_of_head (rest := []) gK gKT Tryd.underlying136 Tryd.underlying87 cellsU cellsK (laidMet.tail h')
  have cF : FTab W := fun i hi => by
    have := hF.cell gF i (by simpa [hh] using hi);rw [wd_int hh i (by simpa [hh] using hi)] at this;exact this
  have cK : KTab W := fun i hi => by
    have := hK.cell gK i (by simpa [kk] using hi);rw [wd_int kk i (by simpa [kk] using hi)] at this;exact this
  refine ⟨cK, cF, ?_⟩;have h0 := block_lt_of_cell (cF 0 (by omega));have h1 := block_lt_of_cell (cK 0 (by omega));simp only at h0 h1;omega
def laying (cs : Array Value) : Obj → Obj
  | .cells _ t frozen => .cells cs t frozen
  | o => o
noncomputable def laidWorld (os : Os) : World :=
  { World.holding Tryd.prog os ⟨#[], #[], []⟩ with heap := ((World.holding Tryd.prog os ⟨#[], #[], []⟩).heap.modify 1 (laying (arrU hh))).modify 2 (laying (arrU kk)) }
theorem laid_met (os : Os) (args : Array Value) : laidMetH Tryd.prog listed ((laidWorld os).forCall (fun _ _ => 0) ⟨#[], args, []⟩).memory :=
  show laidMet Tryd.prog listed _ from laidMet_of_run' 8 (by kernel_rfl) (by kernel_rfl)
end Go.Proofs.YtcamanopfhbchaaDoor.Sha
end
section
namespace Go.Proofs.YtcamanopfhbchaaDoor.Err
open Go.RowKit Go.Extern.Stop Go.Stop Go.Extern
theorem one_match.{u} (m : Array Value → Sort u) (v : Value) (f : (v : Value) → m #[v]) (g : (x : Array Value) → m x) : ReflectliteValue.method.match_2 m #[v] f g = f v := rfl
theorem two_match.{u} (m : Array Value → Sort u) (v x : Value) (f : (v x : Value) → m #[v, x]) (g : (x : Array Value) → m x) : ReflectliteValue.set.match_3 m #[v, x] f g = f v x := rfl
theorem methodKind (n : Nat) (h : Value) (w : World) : (Go.method (n + 1) 116 (.agg #[h]) "Kind").run Tryd.prog w = .ok (87, h) w := by kernel_rfl
theorem methodElem (n : Nat) (h : Value) (w : World) : (Go.method (n + 1) 116 (.agg #[h]) "Elem").run Tryd.prog w = .ok (100, .agg #[h]) w := by kernel_rfl
theorem methodImplements (n : Nat) (h : Value) (w : World) : (Go.method (n + 1) 116 (.agg #[h]) "Implements").run Tryd.prog w = .ok (101, .agg #[h]) w := by kernel_rfl
theorem methodAssignableTo (n : Nat) (h : Value) (w : World) : (Go.method (n + 1) 116 (.agg #[h]) "AssignableTo").run Tryd.prog w = .ok (98, .agg #[h]) w := by kernel_rfl
theorem valueOfPE (t : Addr) (w : World) : (ReflectliteValue.unpack (.iface 78 (.pointer (some t)))).run Tryd.prog w
    = .ok (.agg #[.pointer (some ⟨3, 78, none⟩), .pointer (some ⟨w.heap.size, 0, none⟩), .int .u64 150]) (w.alloc (.cells #[.pointer (some t)] 78)) := by kernel_rfl
theorem typePE (a : Addr) (w : World) : (ReflectliteValue.methodAny (ReflectliteValue.valueError "reflectlite.Value.Type" 0) (fun t _ _ _ => ReflectliteType.toType t) #[.agg #[.pointer (some ⟨3, 78, none⟩), .pointer (some a), .int .u64 150]]).run Tryd.prog w
    = .ok (.iface 116 (.agg #[.pointer (some ⟨3, 78, none⟩)])) w := by kernel_rfl
theorem kindPE (w : World) : ((ReflectliteType.abiMethod fun t => (fun a : Nat => Value.int IntKind.u8 (a : Int)) <$> Rtype.kind t) #[.pointer (some ⟨3, 78, none⟩)]).run Tryd.prog w = .ok (.int .u8 22) w := by kernel_rfl
theorem kindE (w : World) : ((ReflectliteType.abiMethod fun t => (fun a : Nat => Value.int IntKind.u8 (a : Int)) <$> Rtype.kind t) #[.pointer (some ⟨3, 71, none⟩)]).run Tryd.prog w = .ok (.int .u8 2) w := by kernel_rfl
theorem partsPE (a : Addr) (w : World) : (ReflectliteValue.parts (.agg #[.pointer (some ⟨3, 78, none⟩), .pointer (some a), .int .u64 150])).run Tryd.prog w = .ok (some (78, a, 150)) w := by kernel_rfl
theorem isNilPE (a p : Addr) (W : World) (ha : W.cell? a = some (.pointer (some p))) :
    (ReflectliteValue.method (ReflectliteValue.valueError "reflectlite.Value.IsNil" 0) ReflectliteValue.isNil #[.agg #[.pointer (some ⟨3, 78, none⟩), .pointer (some a), .int .u64 150]]).run Tryd.prog W = .ok (.bool false) W := by
  delta ReflectliteValue.method
  rw [one_match];simp only [Sem.run_bind, partsPE, Result.andThen];simp [ReflectliteValue.isNil, loadVar, isAgg, underlying, Tryd.underlying78, ha, Result.andThen]
theorem elemPE (w : World) : (ReflectliteType.method ReflectliteType.elem #[.agg #[.pointer (some ⟨3, 78, none⟩)]]).run Tryd.prog w = .ok (.iface 116 (.agg #[.pointer (some ⟨3, 71, none⟩)])) w := by kernel_rfl
theorem implementsE (w : World) : (ReflectliteType.relation "Implements" ReflectliteType.implements_ #[.agg #[.pointer (some ⟨3, 71, none⟩)], .iface 116 (.agg #[.pointer (some ⟨3, 38, none⟩)])]).run Tryd.prog w = .ok (.bool true) w := by kernel_rfl
theorem typeOfE (v : Value) (w : World) : (ReflectliteType.typeOf #[.iface 71 v]).run Tryd.prog w = .ok (.iface 116 (.agg #[.pointer (some ⟨3, 71, none⟩)])) w := by kernel_rfl
theorem elemOfPE (w : World) : (Rtype.elem? 78).run Tryd.prog w = .ok (some 71) w := by kernel_rfl
theorem mkE (p : Addr) (w : World) : (ReflectliteValue.mk 71 p ReflectliteValue.flagAddr).run Tryd.prog w = .ok (.agg #[.pointer (some ⟨3, 71, none⟩), .pointer (some p), .int .u64 386]) w := by kernel_rfl
theorem elemVE (a p : Addr) (W : World) (ha : W.cell? a = some (.pointer (some p))) :
    (ReflectliteValue.method (ReflectliteValue.valueError "reflectlite.Value.Elem" 0) ReflectliteValue.elem #[.agg #[.pointer (some ⟨3, 78, none⟩), .pointer (some a), .int .u64 150]]).run Tryd.prog W
      = .ok (.agg #[.pointer (some ⟨3, 71, none⟩), .pointer (some p), .int .u64 386]) W := by
  delta ReflectliteValue.method
  rw [one_match];simp only [Sem.run_bind, partsPE, Result.andThen];simp [ReflectliteValue.elem, loadVar, isAgg, underlying, Tryd.underlying78, ha, Result.andThen, elemOfPE, mkE]
theorem partsAE (a : Addr) (w : World) : (ReflectliteValue.parts (.agg #[.pointer (some ⟨3, 71, none⟩), .pointer (some a), .int .u64 386])).run Tryd.prog w = .ok (some (71, a, 386)) w := by kernel_rfl
theorem partsE (a : Addr) (w : World) : (ReflectliteValue.parts (.agg #[.pointer (some ⟨3, 71, none⟩), .pointer (some a), .int .u64 130])).run Tryd.prog w = .ok (some (71, a, 130)) w := by kernel_rfl
theorem directE (w : World) : (Rtype.directlyAssignable 71 71).run Tryd.prog w = .ok true w := by kernel_rfl
theorem typeOfF (v : Value) (w : World) : (ReflectliteType.typeOf #[.iface 76 v]).run Tryd.prog w = .ok (.iface 116 (.agg #[.pointer (some ⟨3, 76, none⟩)])) w := by kernel_rfl
theorem assignableEE (w : World) : (ReflectliteType.relation "AssignableTo" ReflectliteType.assignableTo #[.agg #[.pointer (some ⟨3, 71, none⟩)], .iface 116 (.agg #[.pointer (some ⟨3, 71, none⟩)])]).run Tryd.prog w = .ok (.bool true) w := by kernel_rfl
theorem assignableFE (w : World) : (ReflectliteType.relation "AssignableTo" ReflectliteType.assignableTo #[.agg #[.pointer (some ⟨3, 76, none⟩)], .iface 116 (.agg #[.pointer (some ⟨3, 71, none⟩)])]).run Tryd.prog w = .ok (.bool false) w := by kernel_rfl
theorem valueOfE (c : Int) (w : World) : (ReflectliteValue.unpack (.iface 71 (.int .i64 c))).run Tryd.prog w
    = .ok (.agg #[.pointer (some ⟨3, 71, none⟩), .pointer (some ⟨w.heap.size, 0, none⟩), .int .u64 130]) (w.alloc (.cells #[.int .i64 c] 71)) := by kernel_rfl
theorem setE (ta b : Addr) (c : Int) (old : Value) (W : World) (hb : W.cell? b = some (.int .i64 c)) (ht : W.cell? ta = some old) (hf : W.frozen? ta = false) :
    (ReflectliteValue.set #[.agg #[.pointer (some ⟨3, 71, none⟩), .pointer (some ta), .int .u64 386], .agg #[.pointer (some ⟨3, 71, none⟩), .pointer (some b), .int .u64 130]]).run Tryd.prog W
      = .ok (.tuple #[]) (W.setCell ta (.int .i64 c)) := by
  delta ReflectliteValue.set
  rw [two_match];simp only [Sem.run_bind, partsAE, partsE, Result.andThen];simp [ReflectliteValue.flagAddr, loadVar, isAgg, underlying, Tryd.underlying71, hb, Result.andThen, directE, storeVar, Value.cells, storeCells, Addr.add];rw [run_store Tryd.prog W ta _ _ (by rfl)];simp [ht, hf]
theorem noAsF (v : Value) (x : TypeId) (w : World) : (Instr.typeAssert (.iface 76 v) x 121 true).run Tryd.prog w = .ok (.tuple #[.nilIface, .bool false]) w := run_typeAssert_lacksB Tryd.underlying121 (by kernel_rfl) (by kernel_rfl) v x w
theorem hasUnF (v : Value) (x : TypeId) (w : World) : (Instr.typeAssert (.iface 76 v) x 124 true).run Tryd.prog w = .ok (.tuple #[.iface 76 v, .bool true]) w := run_typeAssert_hasB Tryd.underlying124 (by kernel_rfl) v x w
theorem methodUnwrap (n : Nat) (x y : Value) (w : World) : (Go.method (n + 1) 76 (.agg #[x, y]) "Unwrap").run Tryd.prog w = .ok (92, .agg #[x, y]) w := by kernel_rfl
end Go.Proofs.YtcamanopfhbchaaDoor.Err
end
section
namespace Go.Proofs.YtcamanopfhbchaaDoor.Err
open Go.RowKit Go.Extern.Stop Go.Stop Go.Extern
def ErrTab (w : World) : Prop := w.cell? ⟨0, 0, none⟩ = some (.iface 116 (.agg #[.pointer (some ⟨3, 38, none⟩)]))
theorem ErrTab.lt {w : World} (h : ErrTab w) : 0 < w.heap.size := by
  unfold ErrTab at h;rcases Nat.lt_or_ge 0 w.heap.size with h0 | h0
  · exact h0
  · simp [World.cell?, Array.getElem?_eq_none h0] at h
theorem ErrTab.below {B : Nat} {w w' : World} (h : ErrTab w) (hb : Below B w w') (hB : 0 < B) : ErrTab w' := (hb.cell (p := ⟨0, 0, none⟩) hB).trans h
theorem ErrTab.on {w w' : World} (h : ErrTab w) (hb : Below w.heap.size w w') : ErrTab w' := h.below hb h.lt
theorem ErrTab.alloc {w : World} (h : ErrTab w) (o : Obj) : ErrTab (w.alloc o) := (World.cell?_alloc_lt w o ⟨0, 0, none⟩ h.lt).trans h
set_option maxHeartbeats 4000000 in
theorem as_EE (c : Int) (t : Addr) (old : Value) (w : World) (hg : ErrTab w) (ht0 : w.cell? t = some old) (hf0 : w.frozen? t = false) :
    Calls Tryd.prog 39 #[.iface 71 (.int .i64 c), .iface 78 (.pointer (some t))] w fun ev w' => ev = .returned (.bool true) ∧ w'.cell? t = some (.int .i64 c) ∧ Below t.block w w' := by
  have h0 := @run_callFunc_extern Tryd.prog 49 _ (fun args => ReflectliteValue.unpack (args.getD 0 (.tuple #[]))) Tryd.func49 (by kernel_rfl) (by kernel_rfl) (by kernel_rfl) (by kernel_rfl);have h1 := @run_callFunc_extern Tryd.prog 50 _ (ReflectliteValue.methodAny (ReflectliteValue.valueError "reflectlite.Value.Type" 0) (fun t _ _ _ => ReflectliteType.toType t)) Tryd.func50 (by kernel_rfl) (by kernel_rfl) (by kernel_rfl) (by kernel_rfl);have h2 := @run_callFunc_extern Tryd.prog 51 _ (ReflectliteValue.method (ReflectliteValue.valueError "reflectlite.Value.IsNil" 0) ReflectliteValue.isNil) Tryd.func51 (by kernel_rfl) (by kernel_rfl) (by kernel_rfl) (by kernel_rfl);have h3 := @run_callFunc_extern Tryd.prog 87 _ (ReflectliteType.abiMethod fun t => do pure (.int .u8 (← Rtype.kind t))) Tryd.func87 (by kernel_rfl) (by kernel_rfl) (by kernel_rfl) (by kernel_rfl);have h4 := @run_callFunc_extern Tryd.prog 100 _ (ReflectliteType.method ReflectliteType.elem) Tryd.func100 (by kernel_rfl) (by kernel_rfl) (by kernel_rfl) (by kernel_rfl);have h5 := @run_callFunc_extern Tryd.prog 101 _ (ReflectliteType.relation "Implements" ReflectliteType.implements_) Tryd.func101 (by kernel_rfl) (by kernel_rfl) (by kernel_rfl) (by kernel_rfl);have h6 := @run_callFunc_extern Tryd.prog 64 _ (ReflectliteType.typeOf) Tryd.func64 (by kernel_rfl) (by kernel_rfl) (by kernel_rfl) (by kernel_rfl);have h7 := @run_callFunc_extern Tryd.prog 98 _ (ReflectliteType.relation "AssignableTo" ReflectliteType.assignableTo) Tryd.func98 (by kernel_rfl) (by kernel_rfl) (by kernel_rfl) (by kernel_rfl);have h8 := @run_callFunc_extern Tryd.prog 65 _ (ReflectliteValue.method (ReflectliteValue.valueError "reflectlite.Value.Elem" 0) ReflectliteValue.elem) Tryd.func65 (by kernel_rfl) (by kernel_rfl) (by kernel_rfl) (by kernel_rfl);have h9 := @run_callFunc_extern Tryd.prog 66 _ (ReflectliteValue.set) Tryd.func66 (by kernel_rfl) (by kernel_rfl) (by kernel_rfl) (by kernel_rfl);have tO1 := typeOfE;have mA := methodAssignableTo;have f6 := valueOfPE;have f7 := typePE;have mK := methodKind;have mE := methodElem;have mI := methodImplements;have k27 := kindPE;have k25 := kindE;have e27 := elemPE;have i25 := implementsE
  have htl : t.block < w.heap.size := by
    rcases Nat.lt_or_ge t.block w.heap.size with h | h
    · exact h
    · simp [World.cell?, Array.getElem?_eq_none h] at ht0
  have hb3 : Below t.block w (((w.alloc (.cells #[.pointer (some t)] 78)).alloc (.cells #[.pointer (some ⟨3, 78, none⟩), .pointer (some ⟨w.heap.size, 0, none⟩), .int .u64 150] 98)).alloc (.cells #[.pointer (some ⟨3, 78, none⟩), .pointer (some ⟨w.heap.size, 0, none⟩), .int .u64 150] 98)) := (((Below.refl _ _).alloc (by omega) _).alloc (by simp; omega) _).alloc (by simp; omega) _;have HB3 := Lib.hid hb3;clear hb3;have n8 := isNilPE ⟨w.heap.size, 0, none⟩ t ((w.alloc (.cells #[.pointer (some t)] 78)).alloc (.cells #[.pointer (some ⟨3, 78, none⟩), .pointer (some ⟨w.heap.size, 0, none⟩), .int .u64 150] 98)) (by simp);have HG := Lib.hid ((hg.alloc (.cells #[.pointer (some t)] 78)).alloc (.cells #[.pointer (some ⟨3, 78, none⟩), .pointer (some ⟨w.heap.size, 0, none⟩), .int .u64 150] 98));have hg3 := HG.out;unfold ErrTab at hg3;have aEE := assignableEE;have vE := valueOfE;have el := elemVE ⟨w.heap.size, 0, none⟩ t (((w.alloc (.cells #[.pointer (some t)] 78)).alloc (.cells #[.pointer (some ⟨3, 78, none⟩), .pointer (some ⟨w.heap.size, 0, none⟩), .int .u64 150] 98)).alloc (.cells #[.pointer (some ⟨3, 78, none⟩), .pointer (some ⟨w.heap.size, 0, none⟩), .int .u64 150] 98)) (by rw [World.cell?_alloc_lt _ _ ⟨w.heap.size, 0, none⟩ (by simp; omega)]; simp);have htW : ((((w.alloc (.cells #[.pointer (some t)] 78)).alloc (.cells #[.pointer (some ⟨3, 78, none⟩), .pointer (some ⟨w.heap.size, 0, none⟩), .int .u64 150] 98)).alloc (.cells #[.pointer (some ⟨3, 78, none⟩), .pointer (some ⟨w.heap.size, 0, none⟩), .int .u64 150] 98)).alloc (.cells #[.int .i64 c] 71)).cell? t = some old := by rw [World.cell?_alloc_lt _ _ t (by simp; omega), World.cell?_alloc_lt _ _ t (by simp; omega), World.cell?_alloc_lt _ _ t (by simp; omega), World.cell?_alloc_lt _ _ t (by simpa using htl)]; exact ht0
  have HTW := Lib.hid htW
  have st := setE t ⟨w.heap.size + 1 + 1 + 1, 0, none⟩ c old ((((w.alloc (.cells #[.pointer (some t)] 78)).alloc (.cells #[.pointer (some ⟨3, 78, none⟩), .pointer (some ⟨w.heap.size, 0, none⟩), .int .u64 150] 98)).alloc (.cells #[.pointer (some ⟨3, 78, none⟩), .pointer (some ⟨w.heap.size, 0, none⟩), .int .u64 150] 98)).alloc (.cells #[.int .i64 c] 71))
    (by rw [World.cell?_alloc_at _ _ _ _ (by simp)]; rfl) htW (by rw [World.frozen?_alloc_old _ _ t (by simp; omega), World.frozen?_alloc_old _ _ t (by simp; omega), World.frozen?_alloc_old _ _ t (by simp; omega), World.frozen?_alloc_old _ _ t (by simp; omega)]; exact hf0)
  clear hg htW
  go_enter Tryd.func39, Tryd.ntmps39
  go_wp2
  refine wp_loop_rounds 1 ?_;rw [rounds_succ]
  go_wp2
  go_ret
  exact ⟨rfl, World.cell?_setCell_same _ _ _ HTW.out, (HB3.out.alloc (by simp; omega) _).setCell (Nat.le_refl _) _⟩
set_option maxHeartbeats 4000000 in
theorem as_FE (p c : Int) (t : Addr) (old : Value) (w : World) (hg : ErrTab w) (ht0 : w.cell? t = some old) (hf0 : w.frozen? t = false) :
    Calls Tryd.prog 39 #[.iface 76 (.agg #[.int .i64 p, .iface 71 (.int .i64 c)]), .iface 78 (.pointer (some t))] w fun ev w' => ev = .returned (.bool true) ∧ w'.cell? t = some (.int .i64 c) ∧ Below t.block w w' := by
  have h0 := @run_callFunc_extern Tryd.prog 49 _ (fun args => ReflectliteValue.unpack (args.getD 0 (.tuple #[]))) Tryd.func49 (by kernel_rfl) (by kernel_rfl) (by kernel_rfl) (by kernel_rfl);have h1 := @run_callFunc_extern Tryd.prog 50 _ (ReflectliteValue.methodAny (ReflectliteValue.valueError "reflectlite.Value.Type" 0) (fun t _ _ _ => ReflectliteType.toType t)) Tryd.func50 (by kernel_rfl) (by kernel_rfl) (by kernel_rfl) (by kernel_rfl);have h2 := @run_callFunc_extern Tryd.prog 51 _ (ReflectliteValue.method (ReflectliteValue.valueError "reflectlite.Value.IsNil" 0) ReflectliteValue.isNil) Tryd.func51 (by kernel_rfl) (by kernel_rfl) (by kernel_rfl) (by kernel_rfl);have h3 := @run_callFunc_extern Tryd.prog 87 _ (ReflectliteType.abiMethod fun t => do pure (.int .u8 (← Rtype.kind t))) Tryd.func87 (by kernel_rfl) (by kernel_rfl) (by kernel_rfl) (by kernel_rfl);have h4 := @run_callFunc_extern Tryd.prog 100 _ (ReflectliteType.method ReflectliteType.elem) Tryd.func100 (by kernel_rfl) (by kernel_rfl) (by kernel_rfl) (by kernel_rfl);have h5 := @run_callFunc_extern Tryd.prog 101 _ (ReflectliteType.relation "Implements" ReflectliteType.implements_) Tryd.func101 (by kernel_rfl) (by kernel_rfl) (by kernel_rfl) (by kernel_rfl);have h6 := @run_callFunc_extern Tryd.prog 64 _ (ReflectliteType.typeOf) Tryd.func64 (by kernel_rfl) (by kernel_rfl) (by kernel_rfl) (by kernel_rfl);have h7 := @run_callFunc_extern Tryd.prog 98 _ (ReflectliteType.relation "AssignableTo" ReflectliteType.assignableTo) Tryd.func98 (by kernel_rfl) (by kernel_rfl) (by kernel_rfl) (by kernel_rfl);have h8 := @run_callFunc_extern Tryd.prog 65 _ (ReflectliteValue.method (ReflectliteValue.valueError "reflectlite.Value.Elem" 0) ReflectliteValue.elem) Tryd.func65 (by kernel_rfl) (by kernel_rfl) (by kernel_rfl) (by kernel_rfl);have h9 := @run_callFunc_extern Tryd.prog 66 _ (ReflectliteValue.set) Tryd.func66 (by kernel_rfl) (by kernel_rfl) (by kernel_rfl) (by kernel_rfl);have tO1 := typeOfE;have mA := methodAssignableTo;have f6 := valueOfPE;have f7 := typePE;have mK := methodKind;have mE := methodElem;have mI := methodImplements;have k27 := kindPE;have k25 := kindE;have e27 := elemPE;have i25 := implementsE
  have htl : t.block < w.heap.size := by
    rcases Nat.lt_or_ge t.block w.heap.size with h | h
    · exact h
    · simp [World.cell?, Array.getElem?_eq_none h] at ht0
  have hb3 : Below t.block w (((w.alloc (.cells #[.pointer (some t)] 78)).alloc (.cells #[.pointer (some ⟨3, 78, none⟩), .pointer (some ⟨w.heap.size, 0, none⟩), .int .u64 150] 98)).alloc (.cells #[.pointer (some ⟨3, 78, none⟩), .pointer (some ⟨w.heap.size, 0, none⟩), .int .u64 150] 98)) := (((Below.refl _ _).alloc (by omega) _).alloc (by simp; omega) _).alloc (by simp; omega) _;have HB3 := Lib.hid hb3;clear hb3;have n8 := isNilPE ⟨w.heap.size, 0, none⟩ t ((w.alloc (.cells #[.pointer (some t)] 78)).alloc (.cells #[.pointer (some ⟨3, 78, none⟩), .pointer (some ⟨w.heap.size, 0, none⟩), .int .u64 150] 98)) (by simp);have HG := Lib.hid ((hg.alloc (.cells #[.pointer (some t)] 78)).alloc (.cells #[.pointer (some ⟨3, 78, none⟩), .pointer (some ⟨w.heap.size, 0, none⟩), .int .u64 150] 98));have hg3 := HG.out;unfold ErrTab at hg3;have tO2 := typeOfF;have aEE := assignableEE;have aFE := assignableFE;have vE := valueOfE;have nA := noAsF;have hU := hasUnF;have mU := methodUnwrap;have el := elemVE ⟨w.heap.size, 0, none⟩ t ((((w.alloc (.cells #[.pointer (some t)] 78)).alloc (.cells #[.pointer (some ⟨3, 78, none⟩), .pointer (some ⟨w.heap.size, 0, none⟩), .int .u64 150] 98)).alloc (.cells #[.pointer (some ⟨3, 78, none⟩), .pointer (some ⟨w.heap.size, 0, none⟩), .int .u64 150] 98)).alloc (.cells #[.int .i64 p, .iface 71 (.int .i64 c)] 76)) (by rw [World.cell?_alloc_lt _ _ ⟨w.heap.size, 0, none⟩ (by simp; omega)]; rw [World.cell?_alloc_lt _ _ ⟨w.heap.size, 0, none⟩ (by simp; omega)]; simp);have htW : (((((w.alloc (.cells #[.pointer (some t)] 78)).alloc (.cells #[.pointer (some ⟨3, 78, none⟩), .pointer (some ⟨w.heap.size, 0, none⟩), .int .u64 150] 98)).alloc (.cells #[.pointer (some ⟨3, 78, none⟩), .pointer (some ⟨w.heap.size, 0, none⟩), .int .u64 150] 98)).alloc (.cells #[.int .i64 p, .iface 71 (.int .i64 c)] 76)).alloc (.cells #[.int .i64 c] 71)).cell? t = some old := by rw [World.cell?_alloc_lt _ _ t (by simp; omega), World.cell?_alloc_lt _ _ t (by simp; omega), World.cell?_alloc_lt _ _ t (by simp; omega), World.cell?_alloc_lt _ _ t (by simp; omega), World.cell?_alloc_lt _ _ t (by simpa using htl)]; exact ht0
  have HTW := Lib.hid htW
  have st := setE t ⟨w.heap.size + 1 + 1 + 1 + 1, 0, none⟩ c old (((((w.alloc (.cells #[.pointer (some t)] 78)).alloc (.cells #[.pointer (some ⟨3, 78, none⟩), .pointer (some ⟨w.heap.size, 0, none⟩), .int .u64 150] 98)).alloc (.cells #[.pointer (some ⟨3, 78, none⟩), .pointer (some ⟨w.heap.size, 0, none⟩), .int .u64 150] 98)).alloc (.cells #[.int .i64 p, .iface 71 (.int .i64 c)] 76)).alloc (.cells #[.int .i64 c] 71))
    (by rw [World.cell?_alloc_at _ _ _ _ (by simp)]; rfl) htW (by rw [World.frozen?_alloc_old _ _ t (by simp; omega), World.frozen?_alloc_old _ _ t (by simp; omega), World.frozen?_alloc_old _ _ t (by simp; omega), World.frozen?_alloc_old _ _ t (by simp; omega), World.frozen?_alloc_old _ _ t (by simp; omega)]; exact hf0)
  clear hg htW
  go_enter Tryd.func39, Tryd.ntmps39
  go_wp2
  refine wp_loop_rounds 2 ?_;rw [rounds_succ]
  go_wp2
  rw [rounds_succ]
  go_wp2
  go_ret
  exact ⟨rfl, World.cell?_setCell_same _ _ _ HTW.out, ((HB3.out.alloc (by simp; omega) _).alloc (by simp; omega) _).setCell (Nat.le_refl _) _⟩
end Go.Proofs.YtcamanopfhbchaaDoor.Err
end
section
namespace Go.Proofs.YtcamanopfhbchaaDoor.Err
open Go.RowKit Go.Extern.Stop Go.Stop Go.Extern
def errnoV (c : Int) : Value := .iface 71 (.int .i64 c)
def faultV (p : Int) (c : Int) : Value := .iface 76 (.agg #[.int .i64 p, .iface 71 (.int .i64 c)])
set_option maxHeartbeats 1000000 in
theorem code_E (c : Int) (w : World) (hg : ErrTab w) : Calls Tryd.prog 21 #[errnoV c] w fun e w' => e = .returned (.int .i64 c) ∧ Below w.heap.size w w' := by
  have hg1 := Lib.hid (hg.alloc (.cells #[.int .i64 0] 71));clear hg;unfold errnoV
  go_enter Tryd.func21, Tryd.ntmps21
  go_wp2_with (go_at_call 39; refine (as_EE c ⟨w.heap.size, 0, none⟩ (.int .i64 0) _ hg1.out (by simp) (by simp)).mono ?_; rintro e w1 ⟨rfl, hc1, hb1⟩; refine Hid.out ?_)
  refine Lib.hid ?_;have HB := Lib.hid (((Below.refl w.heap.size w).alloc (Nat.le_refl _) _).trans hb1);clear hb1
  go_wp2
  go_ret
  exact ⟨rfl, HB.out⟩
set_option maxHeartbeats 1000000 in
theorem code_F (p c : Int) (w : World) (hg : ErrTab w) : Calls Tryd.prog 21 #[faultV p c] w fun e w' => e = .returned (.int .i64 c) ∧ Below w.heap.size w w' := by
  have hg1 := Lib.hid (hg.alloc (.cells #[.int .i64 0] 71));clear hg;unfold faultV
  go_enter Tryd.func21, Tryd.ntmps21
  go_wp2_with (go_at_call 39; refine (as_FE p c ⟨w.heap.size, 0, none⟩ (.int .i64 0) _ hg1.out (by simp) (by simp)).mono ?_; rintro e w1 ⟨rfl, hc1, hb1⟩; refine Hid.out ?_)
  refine Lib.hid ?_;have HB := Lib.hid (((Below.refl w.heap.size w).alloc (Nat.le_refl _) _).trans hb1);clear hb1
  go_wp2
  go_ret
  exact ⟨rfl, HB.out⟩
end Go.Proofs.YtcamanopfhbchaaDoor.Err
end
section
namespace Go.Proofs.YtcamanopfhbchaaDoor.Err
open Go.ChangeShapes Go.WideShapes Go.ChangeAt Go.RowKit
theorem own : ownKnob Tryd.prog.godebug = none := by kernel_rfl
theorem et : Tryd.prog.globalNamed "errors.errorType" = some 0 := by kernel_rfl
theorem rt : (Tryd.prog.cutTypes.find? (·.1 == "internal/reflectlite.rtype")).map (·.2) = some 116 := by kernel_rfl
theorem oneRow : ((List.range Tryd.prog.types.size).filter fun t => Tryd.prog.rowNamed t [101, 114, 114, 111, 114]) = [38] := by kernel_rfl
theorem handle_of_laid {W : World} (h : laidMetH Tryd.prog [("errors.errorType", Rows.laid_errors_errorType)] W) : ErrTab W := by
  have h' : laidMet Tryd.prog [] W ∧ handlesMet Tryd.prog [("errors.errorType", Rows.laid_errors_errorType)] W := h;obtain ⟨name, u, ty, e1, e2, e3, e4, e5⟩ := h'.2 _ (List.mem_singleton.2 rfl);have en : name = [101, 114, 114, 111, 114] := (Option.some.inj e1).symm;subst en;obtain rfl := Option.some.inj (rt.symm.trans e2);have hm : ty ∈ (List.range Tryd.prog.types.size).filter fun t => Tryd.prog.rowNamed t [101, 114, 114, 111, 114] := List.mem_filter.2 ⟨List.mem_range.2 e3, e4⟩;rw [oneRow] at hm;obtain rfl := List.mem_singleton.1 hm;have hh : typeHandle Tryd.prog 38 = .pointer (some ⟨3, 38, none⟩) := by kernel_rfl
  rw [hh] at e5;unfold ErrTab
  simpa using World.var?_cell et e5 0
noncomputable def laidWorld (os : Os) : World :=
  { World.holding Tryd.prog os ⟨#[], #[], []⟩ with heap := (World.holding Tryd.prog os ⟨#[], #[], []⟩).heap.modify 0 fun
      | .cells _ t frozen => .cells #[.iface 116 (.agg #[.pointer (some ⟨3, 38, none⟩)])] t frozen
      | o => o }
theorem laid_met (os : Os) (args : Array Value) : laidMetH Tryd.prog [("errors.errorType", Rows.laid_errors_errorType)] ((laidWorld os).forCall (fun _ _ => 0) ⟨#[], args, []⟩).memory :=
  laidMetH_of_parts (laidMet_nil _ _) (by kernel_rfl)
end Go.Proofs.YtcamanopfhbchaaDoor.Err
end
section
namespace Go.Proofs.YtcamanopfhbchaaDoor.Mrk
open Go.ChangeShapes Go.WideShapes Go.ChangeAt Go.RowKit
theorem own : ownKnob Tryd.prog.godebug = none := by kernel_rfl
def listed : List (String × DataW Unit) := [("lading/sha.first", Rows.laid_lading_sha_first), ("lading/sha.k", Rows.laid_lading_sha_k), ("errors.errorType", Rows.laid_errors_errorType)]
theorem vars_of_laid {W : World} (h : laidMetH Tryd.prog listed W) : Err.ErrTab W ∧ Sha.Tabs W := by
  have h' : laidMet Tryd.prog Sha.listed W ∧ handlesMet Tryd.prog [("errors.errorType", Rows.laid_errors_errorType)] W := h;exact ⟨Err.handle_of_laid (show laidMet Tryd.prog [] W ∧ handlesMet Tryd.prog [("errors.errorType", Rows.laid_errors_errorType)] W from ⟨laidMet_nil _ _, h'.2⟩), Sha.tabs_of_laid (show laidMet Tryd.prog Sha.listed W from h'.1)⟩
noncomputable def laidWorld (os : Os) : World :=
  { World.holding Tryd.prog os ⟨#[], #[], []⟩ with heap := (((World.holding Tryd.prog os ⟨#[], #[], []⟩).heap.modify 1 (Sha.laying (Sha.arrU Sha.hh))).modify 2 (Sha.laying (Sha.arrU Sha.kk))).modify 0 fun
      | .cells _ t frozen => .cells #[.iface 116 (.agg #[.pointer (some ⟨3, 38, none⟩)])] t frozen
      | o => o }
theorem laid_met (os : Os) (args : Array Value) : laidMetH Tryd.prog listed ((laidWorld os).forCall (fun _ _ => 0) ⟨#[], args, []⟩).memory :=
  laidMetH_of_parts (show laidMet Tryd.prog Sha.listed _ from laidMet_of_run' 8 (by kernel_rfl) (by kernel_rfl)) (by kernel_rfl)
end Go.Proofs.YtcamanopfhbchaaDoor.Mrk
end
section
namespace Go.Proofs.YtcamanopfhbchaaDoor.Sha
def vs (f : Nat → Nat) : Nat → Nat
  | 0 => 0
  | n + 1 => vs f n + f n * 65536 ^ n
theorem vs_congr (f g : Nat → Nat) (n : Nat) (h : ∀ j, j < n → f j = g j) : vs f n = vs g n := by
  induction n with
  | zero => rfl
  | succ n ih => rw [vs, vs, ih (fun j hj => h j (by omega)), h n (by omega)]
theorem vs_lt (f : Nat → Nat) (n : Nat) (h : ∀ j, j < n → f j < 65536) : vs f n < 65536 ^ n := by
  induction n with
  | zero => simp [vs]
  | succ n ih =>
    have h1 := ih (fun j hj => h j (by omega));have h2 := h n (by omega);have h3 : f n * 65536 ^ n ≤ 65535 * 65536 ^ n := Nat.mul_le_mul_right _ (by omega);rw [vs, Nat.pow_succ];omega
theorem vs_zero (f : Nat → Nat) (m n : Nat) (h : m ≤ n) (h0 : ∀ j, m ≤ j → f j = 0) : vs f n = vs f m := by
  induction n with
  | zero => have : m = 0 := by omega
            subst this; rfl
  | succ n ih =>
    by_cases e : m = n + 1
    · subst e; rfl
    · rw [vs, h0 n (by omega), ih (by omega)]; omega
theorem vs_set (f g : Nat → Nat) (i n : Nat) (hi : i < n) (h : ∀ j, j ≠ i → g j = f j) : vs g n + f i * 65536 ^ i = vs f n + g i * 65536 ^ i := by
  induction n with
  | zero => omega
  | succ n ih =>
    rw [vs, vs]
    by_cases e : i = n
    · subst e;rw [vs_congr g f i (fun j hj => h j (by omega))];omega
    · have := ih (by omega);rw [h n (by omega)];omega
theorem vs_above (f g : Nat → Nat) (i n : Nat) (hi : i ≤ n) (h : ∀ j, i ≤ j → j < n → f j = g j) : vs f n + vs g i = vs g n + vs f i := by
  induction n with
  | zero => have : i = 0 := by omega
            subst this; rfl
  | succ n ih =>
    by_cases e : i = n + 1
    · subst e; omega
    · have := ih (by omega) (fun j h1 h2 => h j h1 (by omega));rw [vs, vs, h n (by omega) (by omega)];omega
theorem vs_more (f g : Nat → Nat) (i n : Nat) (hi : i < n) (_hf : ∀ j, j < n → f j < 65536) (hg : ∀ j, j < n → g j < 65536) (h : ∀ j, i < j → j < n → f j = g j) (hl : g i < f i) : vs g n < vs f n := by
  have h1 := vs_above f g (i + 1) n (by omega) (fun j a b => h j (by omega) b);have h2 := vs_lt g i (fun j hj => hg j (by omega))
  have h3 : g i * 65536 ^ i + 65536 ^ i ≤ f i * 65536 ^ i := by
    rw [← Nat.succ_mul]; exact Nat.mul_le_mul_right _ hl
  have e1 : vs f (i + 1) = vs f i + f i * 65536 ^ i := rfl;have e2 : vs g (i + 1) = vs g i + g i * 65536 ^ i := rfl;omega
def val (l : List Nat) : Nat := vs (wd l) l.length
def Dig (l : List Nat) : Prop := ∀ j, wd l j < 65536
theorem wd_out (l : List Nat) (j : Nat) (h : l.length ≤ j) : wd l j = 0 := by
  unfold wd; rw [List.getD_eq_getElem?_getD, List.getElem?_eq_none h]; rfl
theorem wd_in (l : List Nat) (j : Nat) (h : j < l.length) : wd l j = l[j] := by
  unfold wd; rw [List.getD_eq_getElem?_getD, List.getElem?_eq_getElem h]; rfl
theorem val_pad (l : List Nat) (n : Nat) (h : l.length ≤ n) : vs (wd l) n = val l := vs_zero _ _ _ h (fun j hj => wd_out l j hj)
theorem wd_set_eq (l : List Nat) (i x : Nat) (h : i < l.length) : wd (l.set i x) i = x := by
  unfold wd; simp [List.getD_eq_getElem?_getD, h]
theorem wd_set_ne (l : List Nat) (i j x : Nat) (h : j ≠ i) : wd (l.set i x) j = wd l j := by
  unfold wd; simp only [List.getD_eq_getElem?_getD, List.getElem?_set]; rw [if_neg (by omega)]
theorem Dig.set {l : List Nat} (h : Dig l) (i x : Nat) (hx : x < 65536) : Dig (l.set i x) := by
  intro j
  by_cases e : j = i
  · subst e
    by_cases hl : j < l.length
    · rw [wd_set_eq _ _ _ hl]; exact hx
    · rw [wd_out _ _ (by simp; omega)]; omega
  · rw [wd_set_ne _ _ _ _ e]; exact h j
theorem val_lt (l : List Nat) (h : Dig l) : val l < 65536 ^ l.length := vs_lt _ _ (fun j _ => h j)
theorem more_val (a b : List Nat) (i n : Nat) (ha : a.length ≤ n) (hb : b.length ≤ n) (da : Dig a) (db : Dig b) (hi : i < n) (h : ∀ j, i < j → j < n → wd a j = wd b j) (hl : wd b i < wd a i) : val b < val a := by
  rw [← val_pad a n ha, ← val_pad b n hb];exact vs_more _ _ i n hi (fun j _ => da j) (fun j _ => db j) h hl
theorem same_val (a b : List Nat) (n : Nat) (ha : a.length ≤ n) (hb : b.length ≤ n) (h : ∀ j, j < n → wd a j = wd b j) : val a = val b := by
  rw [← val_pad a n ha, ← val_pad b n hb];exact vs_congr _ _ _ h
structure Inn (a b o0 o : List Nat) (i k c : Nat) : Prop where
  len : o.length = a.length + b.length + 1
  dig : Dig o
  car : c < 65536
  eq : val o + c * 65536 ^ (i + k) = val o0 + wd a i * vs (wd b) k * 65536 ^ i
theorem inn_step (a b o0 o : List Nat) (i k c : Nat) (h : Inn a b o0 o i k c) (da : Dig a) (db : Dig b) (hik : i + k < o.length) :
    Inn a b o0 (o.set (i + k) ((c + wd o (i + k) + wd a i * wd b k) % 65536)) i (k + 1) ((c + wd o (i + k) + wd a i * wd b k) / 65536) ∧ c + wd o (i + k) + wd a i * wd b k < 4294967296 := by
  have h1 := h.dig (i + k);have h2 := h.car;have h3 := da i;have h4 := db k;have h5 : wd a i * wd b k ≤ 65535 * 65535 := Nat.mul_le_mul (by omega) (by omega);obtain ⟨t, ht⟩ : ∃ t, c + wd o (i + k) + wd a i * wd b k = t := ⟨_, rfl⟩;have htb : t < 4294967296 := by omega
  rw [ht];refine ⟨⟨by rw [List.length_set]; exact h.len, h.dig.set _ _ (by omega), by omega, ?_⟩, htb⟩
  have e1 : val (o.set (i + k) (t % 65536)) + wd o (i + k) * 65536 ^ (i + k) = val o + (t % 65536) * 65536 ^ (i + k) := by
    have := vs_set (wd o) (wd (o.set (i + k) (t % 65536))) (i + k) o.length hik (fun j hj => wd_set_ne _ _ _ _ hj);rw [wd_set_eq _ _ _ hik] at this;unfold val; rw [List.length_set]; exact this
  have e2 := h.eq;have e3 : 65536 ^ (i + (k + 1)) = 65536 ^ (i + k) * 65536 := by rw [← Nat.add_assoc, Nat.pow_succ]
  have e4 : t * 65536 ^ (i + k) = (t % 65536) * 65536 ^ (i + k) + (t / 65536) * 65536 ^ (i + (k + 1)) := by
    have : t = t % 65536 + (t / 65536) * 65536 := by omega
    rw [e3, Nat.mul_comm (65536 ^ (i + k)) 65536, ← Nat.mul_assoc, ← Nat.add_mul, ← this]
  have e5 : wd a i * vs (wd b) (k + 1) * 65536 ^ i = wd a i * vs (wd b) k * 65536 ^ i + wd a i * wd b k * 65536 ^ (i + k) := by
    rw [vs, Nat.mul_add, Nat.add_mul, Nat.pow_add, ← Nat.mul_assoc (wd a i) (wd b k)]
    congr 1
    rw [Nat.mul_assoc, Nat.mul_comm (65536 ^ k), ]
  have e6 : t * 65536 ^ (i + k) = c * 65536 ^ (i + k) + wd o (i + k) * 65536 ^ (i + k) + wd a i * wd b k * 65536 ^ (i + k) := by
    rw [← ht, Nat.add_mul, Nat.add_mul]
  rw [e5];omega
structure Out (a b o : List Nat) (i : Nat) : Prop where
  len : o.length = a.length + b.length + 1
  dig : Dig o
  eq : val o = vs (wd a) i * val b
theorem inn_start (a b o : List Nat) (i : Nat) (h : Out a b o i) : Inn a b o o i 0 0 := ⟨h.len, h.dig, by omega, by simp [vs]⟩
theorem inn_room (a b o0 o : List Nat) (i k c : Nat) (h0 : Out a b o0 i) (h : Inn a b o0 o i k c) (da : Dig a) (db : Dig b) (hi : i < a.length) (hc : 0 < c) (hk : b.length ≤ k) : i + k < a.length + b.length := by
  have h1 : vs (wd b) k = val b := val_pad b k hk;have h2 := h.eq;rw [h1, h0.eq] at h2
  have h3 : vs (wd a) i * val b + wd a i * val b * 65536 ^ i = vs (wd a) (i + 1) * val b := by
    rw [vs, Nat.add_mul, Nat.mul_right_comm]
  have h4 : vs (wd a) (i + 1) < 65536 ^ (i + 1) := vs_lt _ _ (fun j _ => da j);have h5 := val_lt b db;have h6 : vs (wd a) (i + 1) * val b ≤ 65536 ^ (i + 1) * val b := Nat.mul_le_mul_right _ (Nat.le_of_lt h4);have h7 : 65536 ^ (i + 1) * val b < 65536 ^ (i + 1) * 65536 ^ b.length := Nat.mul_lt_mul_of_pos_left h5 (Nat.pow_pos (by omega))
  have h8 : 65536 ^ (i + 1) * 65536 ^ b.length ≤ 65536 ^ (a.length + b.length) := by
    rw [← Nat.pow_add]; exact Nat.pow_le_pow_right (by omega) (by omega)
  have h9 : 65536 ^ (i + k) ≤ c * 65536 ^ (i + k) := Nat.le_mul_of_pos_left _ hc;have h10 : 65536 ^ (i + k) < 65536 ^ (a.length + b.length) := by omega
  exact (Nat.pow_lt_pow_iff_right (by omega)).1 h10
theorem out_step (a b o0 o : List Nat) (i k : Nat) (h0 : Out a b o0 i) (h : Inn a b o0 o i k 0) (hk : b.length ≤ k) : Out a b o (i + 1) := by
  refine ⟨h.len, h.dig, ?_⟩;have h1 : vs (wd b) k = val b := val_pad b k hk;have h2 := h.eq;rw [h1, h0.eq] at h2;rw [vs, Nat.add_mul, Nat.mul_right_comm];omega
theorem out_start (a b : List Nat) : Out a b (List.replicate (a.length + b.length + 1) 0) 0 := by
  have hz : ∀ n j, wd (List.replicate n 0) j = 0 := by
    intro n j; unfold wd; simp only [List.getD_eq_getElem?_getD, List.getElem?_replicate]; split <;> rfl
  refine ⟨by simp, fun j => by rw [hz]; omega, ?_⟩;unfold val;rw [vs_zero _ 0 _ (Nat.zero_le _) (fun j _ => hz _ j)];simp [vs]
theorem out_end (a b o : List Nat) (h : Out a b o a.length) : val o = val a * val b := h.eq
def bigL (x : Nat) : List Nat := [x % 65536, x / 65536 % 65536, x / 65536 / 65536]
theorem bigL_dig (x : Nat) (h : x < 281474976710656) : Dig (bigL x) := by
  intro j
  match j with
  | 0 => show x % 65536 < 65536; omega
  | 1 => show x / 65536 % 65536 < 65536; omega
  | 2 => show x / 65536 / 65536 < 65536; omega
  | j + 3 => rw [wd_out _ _ (by simp [bigL])]; omega
theorem bigL_val (x : Nat) : val (bigL x) = x := by
  show ((0 + x % 65536 * 65536 ^ 0) + (x / 65536 % 65536) * 65536 ^ 1) + (x / 65536 / 65536) * 65536 ^ 2 = x;rw [show (65536 : Nat) ^ 0 = 1 by rfl, show (65536 : Nat) ^ 1 = 65536 by rfl, show (65536 : Nat) ^ 2 = 65536 * 65536 by rfl];omega
def wantL (n p : Nat) : List Nat := List.replicate n 0 ++ [p]
theorem wantL_val (n p : Nat) : val (wantL n p) = p * 65536 ^ n := by
  have hz : ∀ j, j < n → wd (wantL n p) j = 0 := by
    intro j hj; unfold wd wantL; simp [List.getD_eq_getElem?_getD, List.getElem?_append, hj]
  have hn : wd (wantL n p) n = p := by unfold wd wantL; simp [List.getD_eq_getElem?_getD]
  have hl : (wantL n p).length = n + 1 := by simp [wantL]
  unfold val;rw [hl, vs, hn]
  have : vs (wd (wantL n p)) n = 0 := by
    have : vs (wd (wantL n p)) n = vs (fun _ => 0) n := vs_congr _ _ _ hz;rw [this, vs_zero _ 0 n (Nat.zero_le _) (fun _ _ => rfl)]; rfl
  omega
theorem wantL_dig (n p : Nat) (h : p < 65536) : Dig (wantL n p) := by
  intro j;unfold wd wantL;simp only [List.getD_eq_getElem?_getD, List.getElem?_append, List.length_replicate, List.getElem?_replicate]
  split
  · rename_i hj; simp
  · rename_i hj;rcases Nat.eq_zero_or_pos (j - n) with e | e
    · rw [e]; simpa using h
    · rw [List.getElem?_eq_none (by simp; omega)]; simp
theorem root_one (e T u v : Nat) (_he : e ≠ 0) (h1 : u ^ e ≤ T) (h2 : T < (u + 1) ^ e) (h3 : v ^ e ≤ T) (h4 : T < (v + 1) ^ e) : u = v := by
  rcases Nat.lt_trichotomy u v with h | h | h
  · have := Nat.pow_le_pow_left (show u + 1 ≤ v by omega) e; omega
  · exact h
  · have := Nat.pow_le_pow_left (show v + 1 ≤ u by omega) e; omega
def prm : Nat → List Nat
  | 0 => []
  | k + 1 => if (prm k).all (fun p => (k + 2) % p != 0) then prm k ++ [k + 2] else prm k
theorem prm_mono (k n : Nat) (h : k ≤ n) : (prm k).length ≤ (prm n).length := by
  induction n with
  | zero => have : k = 0 := by omega
            subst this; exact Nat.le_refl _
  | succ n ih =>
    by_cases e : k = n + 1
    · subst e; exact Nat.le_refl _
    · have := ih (by omega);rw [prm]
      split
      · rw [List.length_append]; omega
      · exact this
theorem prm_le (k : Nat) : (prm k).length ≤ k ∧ ∀ p ∈ prm k, 2 ≤ p ∧ p ≤ k + 1 := by
  induction k with
  | zero => exact ⟨Nat.le_refl _, fun p h => by cases h⟩
  | succ k ih =>
    rw [prm]
    split
    · refine ⟨by rw [List.length_append]; simp; exact ih.1, fun p h => ?_⟩;rcases List.mem_append.1 h with h | h
      · have := ih.2 p h; omega
      · simp at h; omega
    · exact ⟨by have := ih.1; omega, fun p h => by have := ih.2 p h; omega⟩
def rootC (p x : Nat) : Nat := (if 216 ≤ p then 6 else if 125 ≤ p then 5 else if 64 ≤ p then 4 else if 27 ≤ p then 3 else if 8 ≤ p then 2 else 1) * 4294967296 + x
def rootS (p x : Nat) : Nat := (if 16 ≤ p then 4 else if 9 ≤ p then 3 else if 4 ≤ p then 2 else 1) * 4294967296 + x
theorem prm64 : (prm 310).length = 64 := by decide +kernel
theorem prm63 : (prm 309).length = 63 := by decide +kernel
theorem prm8 : (prm 18).length = 8 := by decide +kernel
theorem prm7 : (prm 17).length = 7 := by decide +kernel
theorem roots_k : ∀ i, i < 64 → (rootC (wd (prm 310) i) (wd kk i)) ^ 3 ≤ wd (prm 310) i * 65536 ^ 6 ∧ wd (prm 310) i * 65536 ^ 6 < (rootC (wd (prm 310) i) (wd kk i) + 1) ^ 3 ∧ rootC (wd (prm 310) i) (wd kk i) % 4294967296 = wd kk i ∧ wd (prm 310) i < 400 := by decide +kernel
theorem roots_h : ∀ i, i < 8 → (rootS (wd (prm 18) i) (wd hh i)) ^ 2 ≤ wd (prm 18) i * 65536 ^ 4 ∧ wd (prm 18) i * 65536 ^ 4 < (rootS (wd (prm 18) i) (wd hh i) + 1) ^ 2 ∧ rootS (wd (prm 18) i) (wd hh i) % 4294967296 = wd hh i ∧ wd (prm 18) i < 400 := by decide +kernel
end Go.Proofs.YtcamanopfhbchaaDoor.Sha
end
section
namespace Go.Proofs.YtcamanopfhbchaaDoor.Sha
open Go.RowKit Go.Lib
theorem bc_snoc (l : List UInt8) (b : UInt8) : byteCells (l ++ [b]) = byteCells l ++ [Value.int .u8 b.toNat] := by simp [byteCells]
theorem byteOf_nat (n : Nat) : (byteOf n).toNat = n % 256 := by
  unfold byteOf;rw [UInt8.toNat_ofNat']; omega
theorem made_list (v : Value) (n : Nat) : (madeCells #[v] n).toList = List.replicate n v := by
  apply List.ext_getElem
  · simp [madeCells]
  · intro i h1 h2;simp [madeCells, Nat.mod_one]
theorem conv_own {w : World} {base : Nat} {v : Value} {l : List UInt8} (h : w.ownsRow base 5 1 v l.length (byteCells l)) :
    (convert 107 9 v).run Tryd.prog w = .ok (.string ⟨l.toArray⟩) w := by
  rcases h.2 with ⟨rfl, h0⟩ | ⟨g, cap, cur, rfl, -, -, -, -, -, -⟩
  · have hl : l = [] := List.eq_nil_of_length_eq_zero h0;subst hl;exact run_convert_nil_bytes w _ _ 5 0 Tryd.underlying107 Tryd.underlying5 Tryd.underlying9
  · exact run_convert_bytes_back (P := Tryd.prog) w _ _ 5 ⟨g, 0, none⟩ cap l Tryd.underlying107 Tryd.underlying5 Tryd.underlying9 (fun j hj => h.cells (g := g) rfl j _ (by simp [byteCells, hj]))
theorem cells_new (w : World) (l : List Value) (t : TypeId) : ∀ j u, l[j]? = some u → (w.alloc (.cells l.toArray t)).cell? ((⟨w.heap.size, 0, none⟩ : Addr).add j) = some u := by
  intro j u h;have hadd : (⟨w.heap.size, 0, none⟩ : Addr).add j = ⟨w.heap.size, j, none⟩ := by unfold Addr.add; split <;> simp_all
  rw [hadd, cell_of_row _ _ _ _ _ _ (heap_alloc_new w _)]
  simpa using h
def endA (z : Nat) : List UInt8 := 128 :: List.replicate z 0
theorem be8_len (x k : Nat) : (be8 x k).length = k := by
  induction k with
  | zero => rfl
  | succ k ih => simp [be8, ih]
theorem ending_len (n : Nat) : (ending n).length = 1 + (119 - n % 64) % 64 + 8 := by simp [ending, be8_len]; omega
set_option maxRecDepth 100000 in
set_option maxHeartbeats 400000 in
theorem ending_any (n : Nat) (w : World) (hn : (n : Int) ≤ 70368744177664) :
    Calls Tryd.prog 62 #[.int .i64 (n : Int)] w fun e w' => e = .returned (.string ⟨(ending n).toArray⟩) ∧ Below w.heap.size w w' := by
  obtain ⟨i0, hi, hz0, hz1, hz2⟩ := info_parts info8;obtain ⟨z, hz⟩ : ∃ z, (119 - n % 64) % 64 = z := ⟨_, rfl⟩;have hz64 : z < 64 := by omega
  have HZ := Lib.hid hz;have hzi : (119 - (n : Int) % 64) % 64 = (z : Int) := by omega
  have hzi2 : (119 - (n : Int)) % 64 = (z : Int) := by omega
  have hmk : (Instr.makeSlice 107 (.int .i64 (1 + (z : Int))) (.int .i64 (1 + (z : Int) + 8))).run Tryd.prog w = .ok (.slice (some ⟨w.heap.size, 0, none⟩) (1 + z) (1 + z + 8)) (w.alloc (.cells (madeCells #[.int .u8 0] (1 + z + 8)) 5)) := by
    have h := run_make (P := Tryd.prog) w 107 5 i0 (.int .u8 0) Tryd.underlying107 hi hz0 .i64 .i64 (1 + (z : Int)) (1 + (z : Int) + 8) (by omega) (by omega) (by rw [hz2]; omega) (by omega);rw [hz1, show (1 + (z : Int)).toNat = 1 + z by omega, show (1 + (z : Int) + 8).toNat = 1 + z + 8 by omega, Nat.mul_one] at h;exact h
  have hm0 : (madeCells #[.int .u8 0] (1 + z + 8))[0]? = some (.int .u8 0) := by
    have h := made_list (.int .u8 0) (1 + z + 8);rw [← Array.getElem?_toList, h]; simp
  have HO : Hid ((w.alloc (.cells ((madeCells #[.int .u8 0] (1 + z + 8)).setIfInBounds 0 (.int .u8 128)) 5)).ownsRow w.heap.size 5 1 (.slice (some ⟨w.heap.size, 0, none⟩) (1 + z) (1 + z + 8)) (endA z).length (byteCells (endA z))) := Lib.hid (by
    have el : (endA z).length = 1 + z := by simp [endA]; omega
    rw [el];refine ⟨by simp [byteCells, endA]; omega, .inr ⟨w.heap.size, 1 + z + 8, _, rfl, Nat.le_refl _, heap_alloc_new _ _, by omega, by unfold maxLen; omega, by simp [size_madeCells], ?_⟩⟩;rw [Array.toList_setIfInBounds, made_list, show 1 + z + 8 = (z + 8) + 1 by omega, List.replicate_succ, List.set_cons_zero, Nat.mul_one, show 1 + z = z + 1 by omega, List.take_succ_cons, List.take_replicate]
    simp [byteCells, endA])
  obtain ⟨x, hx⟩ : ∃ x, n * 8 = x := ⟨_, rfl⟩;have hxi : (n : Int) * 8 = (x : Int) := by omega
  have HX := Lib.hid hx;have hxb : (x : Int) ≤ 562949953421312 := by omega
  clear hz hx
  go_enter Tryd.func62, Tryd.ntmps62
  go_wp2
  clear hzi hzi2 hxi;generalize (119 - (n : Int) % 64) % 64 = q0
  go_loopw [4, 6] (fun v i wr => ∃ (k : Nat) (s : Int) (l : List UInt8), k ≤ 8 ∧ i = .int .i64 s ∧ Hid (s = 56 - 8 * (k : Int)) ∧ Hid (l = endA z ++ be8 x k) ∧ Hid (wr.ownsRow w.heap.size 5 1 v l.length (byteCells l)) ∧ Hid (Below w.heap.size w wr)) (fun _ i _ => (intOf i + 8).toNat)
  case atStart => exact ⟨0, 56, endA z, by omega, rfl, Lib.hid rfl, Lib.hid (by simp [be8]), HO, Lib.hid ((Below.refl _ _).alloc (Nat.le_refl _) _)⟩
  case round =>
    clear HO hm0 hmk;obtain ⟨k, s, l, hk, rfl, HS, HL, HO, HB⟩ := hrel;have hlen : l.length ≤ 72 := by rw [HL.out]; simp [endA, be8_len]; omega
    by_cases hlt : k < 8
    · obtain ⟨sh, rfl⟩ := Int.eq_ofNat_of_zero_le (show 0 ≤ s by have := HS.out; omega);have hsh : sh ≤ 56 := by have := HS.out; omega
      obtain ⟨y, hy⟩ : ∃ y : Nat, x / 2 ^ sh % 256 = y := ⟨_, rfl⟩;have hyi : (x : Int) / 2 ^ sh % 256 = (y : Int) := by rw [← hy, Int.natCast_emod, Int.natCast_ediv, Int.natCast_pow]; rfl
      have HY := Lib.hid (show (byteOf (x / 2 ^ (56 - 8 * k))).toNat = y by rw [byteOf_nat, ← hy, show 56 - 8 * k = sh by have := HS.out; omega]);clear hy;have hs1 := HB.out.size
      go_wp2_with (at_builtin; refine wpList_append_own _ rfl _ _ 107 rfl w.heap.size 5 i0 (.int .u8 0) 1 1 Tryd.underlying107 hi hz0 hz1 hz2 rfl (by decide) _ _ _ rfl (HO.out.alloc _) ⟨wr.heap.size, 0, none⟩ 1 1 [Value.int .u8 (y : Int)] rfl rfl ?c1 ?c2 ?c3 ?c4 ?c5 ?_)
      case c1 => exact cell_one_new _ _ _
      case c2 => intro u hu; simp at hu; subst hu; rfl
      case c3 => unfold maxLen; omega
      case c4 => omega
      case c5 => simp; omega
      intro v' w1 hown' hgrow _;have HB2 := Lib.hid ((HB.out.alloc hs1 _).grown hgrow (by simp; omega) (fun k hk => (HO.out.lt k hk).1))
      have HO2 : Hid (w1.ownsRow w.heap.size 5 1 v' (l ++ [byteOf (x / 2 ^ (56 - 8 * k))]).length (byteCells (l ++ [byteOf (x / 2 ^ (56 - 8 * k))]))) := Lib.hid (by
        rw [bc_snoc, HY.out]; simpa using hown')
      clear hown' hgrow
      go_wp2
      go_roundw
      case rel => exact ⟨k + 1, _, _, by omega, rfl, Lib.hid (by rw [HS.out]; omega), Lib.hid (by rw [HL.out, be8, List.append_assoc]), HO2, HB2⟩
      case measure => simp [intOf]; omega
    · have hk8 : k = 8 := by omega
      subst hk8;have hs : s = -8 := by have := HS.out; omega
      subst hs;have hcv := conv_own HO.out
      go_wp2
      go_ret
      refine ⟨?_, HB.out⟩;rw [HL.out, ← HX.out, ← HZ.out];unfold ending endA;rw [Nat.mul_comm n 8]; rfl
def CAt (w : World) (b : Nat) (c : List Nat) : Prop := ∀ i, i < 8 → w.cell? ⟨b, i, none⟩ = some (u32V (wd c i))
theorem outB_len (c : List Nat) (k : Nat) : (outB c k).length = 4 * k := by
  induction k with
  | zero => rfl
  | succ k ih => simp [outB, ih, w4]; omega
set_option maxRecDepth 100000 in
set_option maxHeartbeats 400000 in
theorem digest_any (b : Nat) (c : List Nat) (w : World) (hb : b < w.heap.size) (hc : CAt w b c) (hlt : ∀ i, wd c i < 4294967296) :
    Calls Tryd.prog 63 #[.pointer (some ⟨b, 0, none⟩)] w fun e w' => e = .returned (.string ⟨(outB c 8).toArray⟩) ∧ Below w.heap.size w w' := by
  obtain ⟨i0, hi, hz0, hz1, hz2⟩ := info_parts info8;have HC := Lib.hid hc;have HLT := Lib.hid hlt;obtain ⟨w0, hmk, hown0, hgr0⟩ := run_make_own (P := Tryd.prog) w w.heap.size 107 5 i0 (.int .u8 0) 1 Tryd.underlying107 hi hz0 hz1 .i64 .i64 32 (by rw [hz2]; omega) (by unfold maxLen; omega) (Nat.le_refl _);rw [show ((32 : Nat) : Int) = 32 by rfl] at hmk;have HO := Lib.hid hown0;have HB0 := Lib.hid ((Below.refl w.heap.size w).grown hgr0 (Nat.le_refl _) (fun k hk => by cases hk));clear hc hlt hown0 hgr0
  go_enter Tryd.func63, Tryd.ntmps63
  go_wp2
  go_loopw [3, 8] (fun v i wr => ∃ (k : Nat) (l : List UInt8), k ≤ 8 ∧ i = .int .i64 k ∧ Hid (l = outB c k) ∧ Hid (wr.ownsRow w.heap.size 5 1 v l.length (byteCells l)) ∧ Hid (Below w.heap.size w wr)) (fun _ i _ => 8 - (intOf i).toNat)
  case atStart => exact ⟨0, [], by omega, rfl, Lib.hid rfl, HO, HB0⟩
  case round =>
    clear HO hmk HB0;obtain ⟨k, l, hk, rfl, HL, HO, HB⟩ := hrel;have hlen : l.length ≤ 32 := by rw [HL.out, outB_len]; omega
    by_cases hlt : k < 8
    · have hcell : wr.cell? ⟨b, k, none⟩ = some (.int .u32 (wd c k : Nat)) := (HB.out.cell (p := ⟨b, k, none⟩) hb).trans (HC.out k hlt);obtain ⟨x, hx⟩ : ∃ x, wd c k = x := ⟨_, rfl⟩;have hx32 : x < 4294967296 := by rw [← hx]; exact HLT.out k
      rw [hx] at hcell;have HX := Lib.hid hx;clear hx;obtain ⟨y1, hy1⟩ : ∃ y : Nat, (x : Int) / 16777216 = (y : Int) := ⟨x / 16777216, by omega⟩;obtain ⟨y2, hy2⟩ : ∃ y : Nat, (x : Int) / 65536 % 256 = (y : Int) := ⟨x / 65536 % 256, by omega⟩;obtain ⟨y3, hy3⟩ : ∃ y : Nat, (x : Int) / 256 % 256 = (y : Int) := ⟨x / 256 % 256, by omega⟩;obtain ⟨y4, hy4⟩ : ∃ y : Nat, (x : Int) % 256 = (y : Int) := ⟨x % 256, by omega⟩
      have HY : Hid (byteCells (w4 x) = [.int .u8 (y1 : Int), .int .u8 (y2 : Int), .int .u8 (y3 : Int), .int .u8 (y4 : Int)]) := Lib.hid (by
        simp only [w4, byteCells, List.map_cons, List.map_nil, byteOf_nat]
        rw [show ((x / 16777216 % 256 : Nat) : Int) = (y1 : Int) by omega, show ((x / 65536 % 256 : Nat) : Int) = (y2 : Int) by omega, show ((x / 256 % 256 : Nat) : Int) = (y3 : Int) by omega, show ((x % 256 : Nat) : Int) = (y4 : Int) by omega])
      have hs1 := HB.out.size
      go_wp2_with (at_builtin; refine wpList_append_own _ rfl _ _ 107 rfl w.heap.size 5 i0 (.int .u8 0) 1 1 Tryd.underlying107 hi hz0 hz1 hz2 rfl (by decide) _ _ _ rfl (HO.out.alloc _) ⟨wr.heap.size, 0, none⟩ 4 4 [.int .u8 (y1 : Int), .int .u8 (y2 : Int), .int .u8 (y3 : Int), .int .u8 (y4 : Int)] rfl rfl ?c1 ?c2 ?c3 ?c4 ?c5 ?_)
      case c1 => exact cells_new _ _ _
      case c2 => intro u hu; simp at hu; rcases hu with rfl | rfl | rfl | rfl <;> rfl
      case c3 => unfold maxLen; omega
      case c4 => omega
      case c5 => simp; omega
      intro v' w1 hown' hgrow _;have HB2 := Lib.hid ((HB.out.alloc hs1 _).grown hgrow (by simp; omega) (fun k hk => (HO.out.lt k hk).1))
      have HO2 : Hid (w1.ownsRow w.heap.size 5 1 v' (l ++ w4 x).length (byteCells (l ++ w4 x))) := Lib.hid (by
        have e1 : (l ++ w4 x).length = l.length + 4 := by simp [w4]
        have e2 : byteCells (l ++ w4 x) = byteCells l ++ byteCells (w4 x) := by simp [byteCells]
        rw [e1, e2, HY.out]; exact hown')
      clear hown' hgrow hy1 hy2 hy3 hy4
      go_wp2
      go_roundw
      case rel => exact ⟨k + 1, _, by omega, by go_num, Lib.hid (by rw [HL.out, outB, HX.out]), HO2, HB2⟩
      case measure => simp [intOf]; omega
    · have hk8 : k = 8 := by omega
      subst hk8;have hcv := conv_own HO.out
      go_wp2
      go_ret
      exact ⟨by rw [HL.out]; rfl, HB.out⟩
end Go.Proofs.YtcamanopfhbchaaDoor.Sha
end
section
namespace Go.Proofs.YtcamanopfhbchaaDoor.Sha
open Go.RowKit Go.Lib
def zst : Array Value := stV (List.replicate 8 0) (List.replicate 64 0) 0
theorem zst_new {w : World} {b : Nat} {t : TypeId} (h : Row w b t zst) : StW w b t [] := ⟨List.replicate 8 0, List.replicate 64 0, by simp, by simp, .inl rfl, h⟩
theorem stV_len (c : List Nat) (r : List UInt8) (n : Nat) (hc : c.length = 8) (hr : r.length = 64) : (stV c r n).size = 73 := by simp [stV, hc, hr]
theorem zst_len : zst.size = 73 := by simp [zst, stV]
theorem stV_one (c : List Nat) (r : List UInt8) (n : Nat) : (stV c r n).all (·.oneCell') = true := by simp [stV, u32V, bV, Value.oneCell']
theorem info44 : (Tryd.prog.info? 92).map (·.size) = some 73 := by kernel_rfl
theorem cat_one (s : ByteArray) : cat (fun _ => s) 1 = s.data.toList := by simp [cat]
theorem sarg_one (w : World) (B : Nat) (s : ByteArray) (t : TypeId) (hB : B < w.heap.size) : SArg (w.alloc (.cells #[.string s] t)) B (some ⟨w.heap.size, 0, none⟩) 1 (fun _ => s) := by
  intro k hk;obtain rfl : k = 0 := by omega
  exact ⟨w.heap.size, 0, rfl, by simp, by omega, by rw [cell_of_row _ _ _ _ _ _ (heap_alloc_new w _)]; rfl⟩
theorem dig_of (l : List UInt8) (c : List Nat) (r : List UInt8) (h : l ++ ending l.length = [] ∨ Inv (l ++ ending l.length) c r) : outB c 8 = dig l ∧ ∀ i, wd c i < 4294967296 := by
  have hi := h.resolve_left (by simp [ending]);unfold dig;rw [← hi.hc];exact ⟨rfl, by rw [hi.hc]; exact blocks_lt _ _⟩
theorem info44z : (Tryd.prog.info? 92).map (·.zero) = some (some (.agg zst)) := by kernel_rfl
theorem zero44 (v : World) : (zeroValue 92).run Tryd.prog v = .ok (.agg zst) v := by
  have h := info44z
  cases hq : Tryd.prog.info? 92 with
  | none => rw [hq] at h; cases h
  | some i =>
    rw [hq] at h;have hz : i.zero = some (.agg zst) := by simpa using h
    simp [zeroValue, typeInfo, hq, hz]
set_option maxRecDepth 100000 in
set_option maxHeartbeats 400000 in
theorem sum_st (b : Nat) (t : TypeId) (l : List UInt8) (w : World) (hT : Tabs w) (hst : StW w b t l) (hl : (l.length : Int) ≤ 35184372088832) :
    Calls Tryd.prog 47 #[.pointer (some ⟨b, 0, none⟩)] w fun e w' => e = .returned (.string ⟨(dig l).toArray⟩) ∧ Below w.heap.size w w' := by
  have HT := Lib.hid hT;obtain ⟨c, r, hc, hr, hi, hrow⟩ := hst;have HI := Lib.hid hi;have HC := Lib.hid hc;have HRL := Lib.hid hr;have HR := Lib.hid hrow;have HS : Hid ((Tryd.prog.info? 92).map (·.size) = some (stV c r l.length).size) := Lib.hid (by rw [info44, stV_len _ _ _ hc hr]);have h2 := hT.size;clear hT hc hr hrow hi;have hz44 := zero44
  go_enter Tryd.func47, Tryd.ntmps47
  go_wp2_with (first | (refine wpList_load_row rfl 92 (.tmp 7) rfl b rfl t (stV c r l.length) (0, 0) _ HR.out Tryd.underlying92 rfl HS.out ?_) | (refine wpList_store_rowA rfl 92 (.tmp 3) (.tmp 8) rfl w.heap.size (stV c r l.length) rfl rfl 92 zst (heap_alloc_new _ _) HS.out (by rw [stV_len _ _ _ HC.out HRL.out, zst_len]) (stV_one _ _ _) ?_; intro w2 hw2 ho2; refine Hid.out ?_))
  refine Lib.hid ?_;have HW2 := Lib.hid hw2;have hb2 : Below w.heap.size w w2 := ((Below.refl w.heap.size w).alloc (Nat.le_refl _) _).trans (ho2.below (Nat.le_refl _) (by simp));have HB2 := Lib.hid hb2;have hs2 : w.heap.size < w2.heap.size := hw2.lt;have hcn : w2.cell? ⟨b, 72, none⟩ = some (.int .i64 (l.length : Int)) := (HB2.out.cell (p := ⟨b, 72, none⟩) HR.out.lt).trans ((HR.out.cell 72).trans (stV_n c r l.length HC.out HRL.out));clear hw2 ho2 hb2
  go_wp2_with (go_at_call 62; refine (ending_any l.length _ (by omega)).mono ?_; rintro e w3 ⟨rfl, hb3⟩; refine Hid.out ?_)
  refine Lib.hid ?_;have HB3 := Lib.hid (HB2.out.trans (hb3.mono (Nat.le_of_lt hs2)));have HW3 := Lib.hid (HW2.out.below hb3 hs2);have hs3 : w.heap.size < w3.heap.size := HW3.out.lt;clear hb3 hcn HW2;have HEL : Hid (((l.length + (cat (fun _ => (⟨(ending l.length).toArray⟩ : ByteArray)) 1).length : Nat) : Int) ≤ 70368744177664) := Lib.hid (by rw [cat_one]; simp [ending_len]; omega)
  go_wp2_with (go_at_call 46; refine (write_any w.heap.size 92 l _ 1 1 (fun _ => ⟨(ending l.length).toArray⟩) _ h2 (HT.out.below (HB3.out.alloc (Nat.le_of_lt hs3) _) h2) ⟨c, r, HC.out, HRL.out, HI.out, (Below.heap_alloc _ _ _ hs3).trans HW3.out⟩ (sarg_one _ _ _ _ hs3) HEL.out (by omega)).mono ?_; rintro e w4 ⟨rfl, hst4, ho4⟩; refine Hid.out ?_)
  refine Lib.hid ?_;rw [cat_one] at hst4;obtain ⟨c4, r4, hc4, hr4, hi4, hrow4⟩ := hst4;have HD := Lib.hid (dig_of l c4 r4 hi4);have HR4 := Lib.hid hrow4;have HC4 := Lib.hid hc4;have HB4 := Lib.hid ((HB3.out.alloc (Nat.le_of_lt hs3) _).trans (ho4.below (Nat.le_refl _) (by simp; omega)));have hs4 : w.heap.size < w4.heap.size := hrow4.lt;clear hi4 hrow4 hc4 hr4 ho4
  go_wp2_with (go_at_call 63; refine (digest_any w.heap.size c4 _ hs4 (fun i hi => (HR4.out.cell i).trans (stV_c _ _ _ _ HC4.out hi)) HD.out.2).mono ?_; rintro e w5 ⟨rfl, hb5⟩; refine Hid.out ?_)
  refine Lib.hid ?_;have HB5 := Lib.hid (HB4.out.trans (hb5.mono (Nat.le_of_lt hs4)));clear hb5
  go_wp2
  go_ret
  exact ⟨by rw [HD.out.1]; rfl, HB5.out⟩
set_option maxRecDepth 100000 in
set_option maxHeartbeats 400000 in
theorem sum_any (A : Option Addr) (n cp : Nat) (ss : Nat → ByteArray) (w : World) (hT : Tabs w) (hA : SArg w w.heap.size A n ss) (hn : (n : Int) ≤ 9223372036854775807) (hl : ((cat ss n).length : Int) ≤ 35184372088832) :
    Calls Tryd.prog 35 #[.slice A n cp] w fun e w' => e = .returned (.string ⟨(dig (cat ss n)).toArray⟩) ∧ Below w.heap.size w w' := by
  have HT := Lib.hid hT;have h2 := hT.size;have HA := Lib.hid hA;have HL := Lib.hid hl;clear hT hA hl
  have HA1 : Hid (SArg (w.alloc (.cells zst 92)) w.heap.size A n ss) := Lib.hid (by
    intro k hk;obtain ⟨b, o, e, hb, hne, hc⟩ := HA.out k hk
    exact ⟨b, o, e, by simp; omega, hne, (World.cell?_alloc_lt w _ ⟨b, o + k, none⟩ hb).trans hc⟩)
  have HL1 : Hid (((([] : List UInt8).length + (cat ss n).length : Nat) : Int) ≤ 70368744177664) := Lib.hid (by have := HL.out; simp; omega);have hz44 := zero44
  go_enter Tryd.func35, Tryd.ntmps35
  go_wp2_with (go_at_call 46; refine (write_any w.heap.size 92 [] A n cp ss (w.alloc (.cells zst 92)) h2 (HT.out.below ((Below.refl w.heap.size w).alloc (Nat.le_refl _) _) h2) (zst_new (heap_alloc_new _ _)) HA1.out HL1.out hn).mono ?_; rintro e w1 ⟨rfl, hst1, ho1⟩; refine Hid.out ?_)
  refine Lib.hid ?_;rw [List.nil_append] at hst1;have HS1 := Lib.hid hst1;have HB1 := Lib.hid (((Below.refl w.heap.size w).alloc (Nat.le_refl _) _).trans (ho1.below (Nat.le_refl _) (by simp)));have hs1 : w.heap.size < w1.heap.size := hst1.lt;clear hst1 ho1
  go_wp2_with (go_at_call 47; refine (sum_st w.heap.size 92 (cat ss n) _ (HT.out.below HB1.out h2) HS1.out HL.out).mono ?_; rintro e w2 ⟨rfl, hb2⟩; refine Hid.out ?_)
  refine Lib.hid ?_;have HB2 := Lib.hid (HB1.out.trans (hb2.mono (Nat.le_of_lt hs1)));clear hb2
  go_wp2
  go_ret
  exact ⟨rfl, HB2.out⟩
end Go.Proofs.YtcamanopfhbchaaDoor.Sha
end
section
namespace Go.Proofs.YtcamanopfhbchaaDoor.Sha
open Go.RowKit Go.Lib
theorem dig_len (l : List UInt8) : (dig l).length = 32 := by unfold dig; rw [outB_len]
def digB (l : List UInt8) : ByteArray := ⟨(dig l).toArray⟩
theorem digB_size (l : List UInt8) : (digB l).size = 32 := dig_len l
end Go.Proofs.YtcamanopfhbchaaDoor.Sha
end
section
namespace Go.Proofs.YtcamanopfhbchaaDoor.Sha
open Go.RowKit Go.Lib
def VIn (w : World) (A : Option Addr) (n : Nat) (f : Nat → Value) : Prop := ∀ k, k < n → ∃ b o, A = some ⟨b, o, none⟩ ∧ b < w.heap.size ∧ w.cell? ⟨b, o + k, none⟩ = some (f k)
end Go.Proofs.YtcamanopfhbchaaDoor.Sha
end
section
namespace Go.Proofs.YtcamanopfhbchaaDoor.Sha
open Go.RowKit Go.Lib
def iV (n : Nat) : Value := .int .i64 (n : Int)
def arrI (l : List Nat) : Array Value := (l.map iV).toArray
def NIn (w : World) (A : Option Addr) (l : List Nat) : Prop := VIn w A l.length (fun k => .int .i64 ((wd l k : Nat) : Int))
theorem VIn.below {w w' : World} {A : Option Addr} {n : Nat} {f : Nat → Value} (h : VIn w A n f) (hb : Below w.heap.size w w') : VIn w' A n f := fun k hk => by
  obtain ⟨b, o, e, hlt, hc⟩ := h k hk;exact ⟨b, o, e, by have := hb.size; omega, (hb.cell (p := ⟨b, o + k, none⟩) hlt).trans hc⟩
theorem NIn.below {w w' : World} {A : Option Addr} {l : List Nat} (h : NIn w A l) (hb : Below w.heap.size w w') : NIn w' A l := VIn.below h hb
theorem arrI_get (l : List Nat) (i : Nat) (h : i < l.length) : (arrI l)[i]? = some (.int .i64 ((wd l i : Nat) : Int)) := by
  simp [arrI, wd, iV, List.getElem?_eq_getElem h]
theorem arrI_set (l : List Nat) (i n : Nat) : (arrI l).setIfInBounds i (.int .i64 (n : Int)) = arrI (l.set i n) := by
  simp [arrI, List.map_set, iV]
theorem nin_row {w : World} {g : Nat} {t : TypeId} {l : List Nat} (h : Row w g t (arrI l)) : NIn w (some ⟨g, 0, none⟩) l := fun k hk =>
  ⟨g, 0, rfl, h.lt, by rw [Nat.zero_add, h.cell k, arrI_get l k hk]⟩
def RetI (w : World) (l : List Nat) (e : Ending) (w' : World) : Prop := ∃ A c, e = .returned (.slice A l.length c) ∧ NIn w' A l ∧ Below w.heap.size w w' ∧ (∀ b o, A = some ⟨b, o, none⟩ → w.heap.size ≤ b)
theorem infoI : (Tryd.prog.info? 3).map (fun i => (i.zero, i.size, i.bytes)) = some (some (.int .i64 0), 1, 8) := by kernel_rfl
set_option maxRecDepth 100000 in
set_option maxHeartbeats 400000 in
theorem big_any (x : Nat) (w : World) (hx : x < 281474976710656) :
    Calls Tryd.prog 58 #[.int .i64 (x : Int)] w (RetI w (bigL x)) := by
  go_enter Tryd.func58, Tryd.ntmps58
  go_wp2
  go_ret
  refine ⟨some ⟨w.heap.size, 0, none⟩, 3, rfl, nin_row (t := 3) ?_, (Below.refl _ _).alloc (Nat.le_refl _) _, fun b o e => by cases e; exact Nat.le_refl _⟩;exact heap_alloc_new _ _
set_option maxRecDepth 100000 in
set_option maxHeartbeats 1000000 in
theorem product_any (a b : List Nat) (A B : Option Addr) (ca cb : Nat) (w : World) (da : Dig a) (db : Dig b) (hA : NIn w A a) (hB : NIn w B b) (la : a.length ≤ 20) (lb : b.length ≤ 20) :
    Calls Tryd.prog 57 #[.slice A a.length ca, .slice B b.length cb] w fun e w' => ∃ o, Hid (o.length = a.length + b.length + 1) ∧ Hid (Dig o) ∧ Hid (val o = val a * val b) ∧ RetI w o e w' := by
  obtain ⟨i0, hi, hz0, hz1, hz2⟩ := info_parts infoI;have HA := Lib.hid hA;have HB := Lib.hid hB;have DA := Lib.hid da;have DB := Lib.hid db;obtain ⟨n, hn⟩ : ∃ n, a.length + b.length + 1 = n := ⟨_, rfl⟩
  have hmk : (Instr.makeSlice 25 (.int .i64 ((a.length : Int) + (b.length : Int) + 1)) (.int .i64 ((a.length : Int) + (b.length : Int) + 1))).run Tryd.prog w = .ok (.slice (some ⟨w.heap.size, 0, none⟩) n n) (w.alloc (.cells (madeCells #[.int .i64 0] n) 3)) := by
    have h := run_make (P := Tryd.prog) w 25 3 i0 (.int .i64 0) Tryd.underlying25 hi hz0 .i64 .i64 ((a.length : Int) + (b.length : Int) + 1) ((a.length : Int) + (b.length : Int) + 1) (by omega) (by omega) (by rw [hz2]; omega) (by omega);rw [hz1, show ((a.length : Int) + (b.length : Int) + 1).toNat = n by omega, Nat.mul_one] at h;exact h
  have HR0 : Hid (Row (w.alloc (.cells (madeCells #[.int .i64 0] n) 3)) w.heap.size 3 (arrI (List.replicate n 0))) := Lib.hid (by
    have e : madeCells #[.int .i64 0] n = arrI (List.replicate n 0) := by
      have := made_list (.int .i64 0) n
      apply Array.ext'
      rw [this]; simp [arrI, iV]
    rw [← e]; exact heap_alloc_new _ _)
  have HN := Lib.hid hn;clear hA hB da db hn
  go_enter Tryd.func57, Tryd.ntmps57
  go_wp2
  clear hmk
  go_loopw [6] (fun x wr => ∃ (i : Nat) (o : List Nat), i ≤ a.length ∧ x = .int .i64 i ∧ Hid (Out a b o i) ∧ Hid (Row wr w.heap.size 3 (arrI o)) ∧ Hid (Below w.heap.size w wr)) (fun x _ => a.length - (intOf x).toNat)
  case atStart => exact ⟨0, List.replicate n 0, by omega, rfl, Lib.hid (by rw [← HN.out]; exact out_start a b), HR0, Lib.hid ((Below.refl _ _).alloc (Nat.le_refl _) _)⟩
  case round =>
    clear HR0;obtain ⟨i, o0, hi2, rfl, HO, HR, HBl⟩ := hrel
    by_cases hlt : i < a.length
    · obtain ⟨ba, oa, rfl, hba, hca0⟩ := HA.out i hlt;obtain ⟨ai, hai⟩ : ∃ x, wd a i = x := ⟨_, rfl⟩;have hai16 : ai < 65536 := by rw [← hai]; exact DA.out i
      simp only [hai] at hca0;have HAI := Lib.hid hai;have HCA := Lib.hid hca0;clear hai hca0
      go_wp2
      go_loopw [7, 8] (fun y x wr => ∃ (k c : Nat) (o : List Nat), i + k ≤ n ∧ c < 65536 ∧ x = .int .i64 k ∧ y = .int .i64 c ∧ Hid (Inn a b o0 o i k c) ∧ Hid (Row wr w.heap.size 3 (arrI o)) ∧ Hid (Below w.heap.size w wr)) (fun _ x _ => n + 1 - (intOf x).toNat)
      case atStart => exact ⟨0, 0, o0, by have := HN.out; omega, by omega, rfl, rfl, Lib.hid (inn_start a b o0 i HO.out), HR, HBl⟩
      case round =>
        clear HR HBl;obtain ⟨k, c, o, hik, hc, rfl, rfl, HI, HR, HBl⟩ := hrel;have hn41 : n ≤ 41 := by have := HN.out; omega
        have hca : wr.cell? ⟨ba, oa + i, none⟩ = some (.int .i64 (ai : Int)) := (HBl.out.cell (p := ⟨ba, oa + i, none⟩) hba).trans HCA.out
        by_cases hkb : k < b.length
        · have hikn : i + k < n := by have := HN.out; omega
          obtain ⟨bb, ob, rfl, hbb, hcb0⟩ := HB.out k hkb;obtain ⟨y, hy⟩ : ∃ x, wd b k = x := ⟨_, rfl⟩;have hy16 : y < 65536 := by rw [← hy]; exact DB.out k
          have hcb : wr.cell? ⟨bb, ob + k, none⟩ = some (.int .i64 (y : Int)) := (HBl.out.cell (p := ⟨bb, ob + k, none⟩) hbb).trans (by rw [← hy]; exact hcb0);obtain ⟨x, hx⟩ : ∃ x, wd o (i + k) = x := ⟨_, rfl⟩;have hx16 : x < 65536 := by rw [← hx]; exact HI.out.dig _
          have hlo : i + k < o.length := by rw [HI.out.len, HN.out]; exact hikn
          have hco : wr.cell? ⟨w.heap.size, i + k, none⟩ = some (.int .i64 (x : Int)) := by rw [HR.out.cell (i + k), arrI_get o _ hlo, hx]
          have hfo := HR.out.frozen (i + k);have HS := Lib.hid (inn_step a b o0 o i k c HI.out DA.out DB.out hlo);rw [hx, hy, HAI.out] at HS;obtain ⟨m, hm⟩ : ∃ m, ai * y = m := ⟨_, rfl⟩;rw [hm] at HS;have hmb : m < 4294967296 := by have := HS.out.2; omega
          have hmi : (ai : Int) * (y : Int) = (m : Int) := by rw [← hm, Int.natCast_mul]
          clear hcb0 hx hy hm;have q1 : IntKind.i64.wrap ((i : Int) + (k : Int)) = (i : Int) + (k : Int) := IntWalk.i64_in _ (by omega);have q2 : ((i : Int) + (k : Int)).toNat = i + k := by omega
          have q3 : 0 ≤ (i : Int) + (k : Int) := by omega
          have q4 : (i : Int) + (k : Int) < (n : Int) := by omega
          have q5 : IntKind.i64.wrap ((c : Int) + (x : Int)) = (c : Int) + (x : Int) := IntWalk.i64_in _ (by omega);have q6 : IntKind.i64.wrap (m : Int) = (m : Int) := IntWalk.i64_in _ (by omega);have q7 : IntKind.i64.wrap ((c : Int) + (x : Int) + (m : Int)) = (c : Int) + (x : Int) + (m : Int) := IntWalk.i64_in _ (by omega);have q8 : (i : Int) < (a.length : Int) := by omega
          go_wp2
          go_quiet (fail)
          clear q1 q5 q6 q7 hmi;have hc2 : (wr.drewN nq).cell? ⟨w.heap.size, i + k, none⟩ = some (.int .i64 (x : Int)) := hco;have hf2 : (wr.drewN nq).frozen? ⟨w.heap.size, i + k, none⟩ = false := hfo;have HR2 : Hid (Row (wr.drewN nq) w.heap.size 3 (arrI o)) := HR;have HBl2 := Lib.hid (below_draws HBl.out nq);obtain ⟨v2, hv2⟩ : ∃ v, wr.drewN nq = v := ⟨_, rfl⟩;rw [hv2] at hc2 hf2 HR2 HBl2 ⊢;clear hv2 HR HBl hca hcb hco hfo
          go_wp2
          go_roundw
          case rel =>
            refine ⟨k + 1, (c + x + m) / 65536, o.set (i + k) ((c + x + m) % 65536), by omega, by have := HS.out.2; omega, by go_num, by go_num, Lib.hid HS.out.1, Lib.hid ?_, Lib.hid (HBl2.out.setCell (Nat.le_refl _) _)⟩;have h := HR2.out.set (i + k) (.int .i64 (((c + x + m) % 65536 : Nat) : Int));rw [arrI_set] at h;exact h
          case measure => simp [intOf]; omega
        · by_cases hc0 : 0 < c
          · have hikn : i + k < n := by have := HN.out; have := inn_room a b o0 o i k c HO.out HI.out DA.out DB.out hlt hc0 (by omega); omega
            obtain ⟨x, hx⟩ : ∃ x, wd o (i + k) = x := ⟨_, rfl⟩;have hx16 : x < 65536 := by rw [← hx]; exact HI.out.dig _
            have hlo : i + k < o.length := by rw [HI.out.len, HN.out]; exact hikn
            have hco : wr.cell? ⟨w.heap.size, i + k, none⟩ = some (.int .i64 (x : Int)) := by rw [HR.out.cell (i + k), arrI_get o _ hlo, hx]
            have hfo := HR.out.frozen (i + k);have HS := Lib.hid (inn_step a b o0 o i k c HI.out DA.out DB.out hlo);rw [hx, wd_out b k (by omega), Nat.mul_zero, Nat.add_zero] at HS;clear hx;have hkbi : ¬ (k : Int) < (b.length : Int) := by omega
            have hkbd : decide ((k : Int) < (b.length : Int)) = false := decide_eq_false hkbi;have hkbd2 : decide (k < b.length) = false := decide_eq_false hkb;have q1 : IntKind.i64.wrap ((i : Int) + (k : Int)) = (i : Int) + (k : Int) := IntWalk.i64_in _ (by omega);have q2 : ((i : Int) + (k : Int)).toNat = i + k := by omega
            have q3 : 0 ≤ (i : Int) + (k : Int) := by omega
            have q4 : (i : Int) + (k : Int) < (n : Int) := by omega
            have q5 : IntKind.i64.wrap ((c : Int) + (x : Int)) = (c : Int) + (x : Int) := IntWalk.i64_in _ (by omega);have q8 : (i : Int) < (a.length : Int) := by omega
            have q9 : IntKind.i64.wrap 0 = 0 := by decide
            go_wp2
            go_quiet (fail)
            clear q1 q5 q9;have hc2 : (wr.drewN nq).cell? ⟨w.heap.size, i + k, none⟩ = some (.int .i64 (x : Int)) := hco;have hf2 : (wr.drewN nq).frozen? ⟨w.heap.size, i + k, none⟩ = false := hfo;have HR2 : Hid (Row (wr.drewN nq) w.heap.size 3 (arrI o)) := HR;have HBl2 := Lib.hid (below_draws HBl.out nq);obtain ⟨v2, hv2⟩ : ∃ v, wr.drewN nq = v := ⟨_, rfl⟩;rw [hv2] at hc2 hf2 HR2 HBl2 ⊢;clear hv2 HR HBl hca hco hfo
            go_wp2
            go_roundw
            case rel =>
              refine ⟨k + 1, (c + x) / 65536, o.set (i + k) ((c + x) % 65536), by omega, by have := HS.out.2; omega, by go_num, by go_num, Lib.hid HS.out.1, Lib.hid ?_, Lib.hid (HBl2.out.setCell (Nat.le_refl _) _)⟩;have h := HR2.out.set (i + k) (.int .i64 (((c + x) % 65536 : Nat) : Int));rw [arrI_set] at h;exact h
            case measure => simp [intOf]; omega
          · have hcz : c = 0 := by omega
            subst hcz;have HO2 := Lib.hid (out_step a b o0 o i k HO.out HI.out (by omega));have hkbi : ¬ (k : Int) < (b.length : Int) := by omega
            have hkbd : decide ((k : Int) < (b.length : Int)) = false := decide_eq_false hkbi;have hkbd2 : decide (k < b.length) = false := decide_eq_false hkb
            go_wp2
            go_roundw
            case rel => exact ⟨i + 1, o, by omega, by go_num, HO2, HR, HBl⟩
            case measure => simp [intOf]; omega
    · have hie : i = a.length := by omega
      subst hie
      go_wp2
      go_ret
      refine ⟨o0, Lib.hid HO.out.len, Lib.hid HO.out.dig, Lib.hid (out_end a b o0 HO.out), some ⟨w.heap.size, 0, none⟩, n, ?_, nin_row HR.out, HBl.out, fun b o e => by cases e; exact Nat.le_refl _⟩;rw [HO.out.len, HN.out]; rfl
end Go.Proofs.YtcamanopfhbchaaDoor.Sha
end
section
namespace Go.Proofs.YtcamanopfhbchaaDoor.Sha
open Go.RowKit Go.Lib
set_option maxRecDepth 100000 in
set_option maxHeartbeats 400000 in
theorem square_any (x : Nat) (w : World) (hx : x < 281474976710656) :
    Calls Tryd.prog 56 #[.int .i64 (x : Int)] w fun e w' => ∃ o, Hid (o.length = 7) ∧ Hid (Dig o) ∧ Hid (val o = x * x) ∧ RetI w o e w' := by
  have D := Lib.hid (bigL_dig x hx)
  go_enter Tryd.func56, Tryd.ntmps56
  go_wp2_with (go_at_call 58; refine (big_any x _ hx).mono ?_; rintro e w1 ⟨A1, c1, rfl, hN1, hb1, hf1⟩; refine Hid.out ?_)
  refine Lib.hid ?_;have HN1 := Lib.hid hN1;have HB1 := Lib.hid hb1;clear hN1 hb1
  go_wp2_with (go_at_call 58; refine (big_any x _ hx).mono ?_; rintro e w2 ⟨A2, c2, rfl, hN2, hb2, hf2⟩; refine Hid.out ?_)
  refine Lib.hid ?_;have HN2 := Lib.hid hN2;have HN1' := Lib.hid (HN1.out.below hb2);have HB2 := Lib.hid (HB1.out.trans (hb2.mono HB1.out.size));clear hN2 hb2 HN1
  go_wp2_with (go_at_call 57; refine (product_any (bigL x) (bigL x) A1 A2 c1 c2 _ D.out D.out HN1'.out HN2.out (by show 3 ≤ 20; decide) (by show 3 ≤ 20; decide)).mono ?_; rintro e w3 ⟨o, HL, HD, HV, A3, c3, rfl, hN3, hb3, hf3⟩; refine Hid.out ?_)
  refine Lib.hid ?_;have HN3 := Lib.hid hN3;have HB3 := Lib.hid (HB2.out.trans (hb3.mono HB2.out.size));clear hN3 hb3
  go_wp2
  go_ret
  exact ⟨o, HL, HD, Lib.hid (by rw [HV.out, bigL_val]), A3, c3, rfl, HN3.out, HB3.out, fun b o e => Nat.le_trans HB2.out.size (hf3 b o e)⟩
theorem retB {a b : Bool} (h : a = b) : Ending.returned (.bool a) = .returned (.bool b) := by rw [h]
def moreB (a b : List Nat) : Bool := decide (val b < val a)
set_option maxRecDepth 100000 in
set_option maxHeartbeats 1000000 in
theorem more_any (a b : List Nat) (A B : Option Addr) (ca cb : Nat) (w : World) (da : Dig a) (db : Dig b) (hA : NIn w A a) (hB : NIn w B b) (la : a.length ≤ 20) (lb : b.length ≤ 20) :
    Calls Tryd.prog 59 #[.slice A a.length ca, .slice B b.length cb] w fun e w' => e = .returned (.bool (moreB a b)) ∧ w = w' := by
  have HA := Lib.hid hA;have HB := Lib.hid hB;have DA := Lib.hid da;have DB := Lib.hid db;clear hA hB da db
  go_enter Tryd.func59, Tryd.ntmps59
  go_wp2
  go_loop [5] (fun i => ∃ s : Int, i = .int .i64 s ∧ -1 ≤ s ∧ s ≤ (a.length : Int) + (b.length : Int) ∧ Hid (∀ j : Nat, s < (j : Int) → j ≤ a.length + b.length → wd a j = wd b j)) (fun i => (intOf i + 1).toNat)
  case atStart => exact ⟨_, rfl, by omega, by omega, Lib.hid (fun j h1 h2 => by omega)⟩
  case round =>
    obtain ⟨s, rfl, h1, h2, HE⟩ := hrel
    by_cases hs : 0 ≤ s
    · obtain ⟨j, rfl⟩ := Int.eq_ofNat_of_zero_le hs;obtain ⟨x, hx⟩ : ∃ x, wd a j = x := ⟨_, rfl⟩;obtain ⟨y, hy⟩ : ∃ y, wd b j = y := ⟨_, rfl⟩;have HX := Lib.hid hx;have HY := Lib.hid hy;have hx16 : x < 65536 := by rw [← hx]; exact DA.out j
      have hy16 : y < 65536 := by rw [← hy]; exact DB.out j
      by_cases hja : j < a.length
      · by_cases hjb : j < b.length
        · skip;obtain ⟨ba, oa, rfl, hba, hca0⟩ := HA.out j hja;simp only [hx] at hca0;obtain ⟨bb, ob, rfl, hbb, hcb0⟩ := HB.out j hjb;simp only [hy] at hcb0;clear hx hy
          by_cases hxy : x = y
          · have HN : Hid (∀ q : Nat, (j : Int) - 1 < (q : Int) → q ≤ a.length + b.length → wd a q = wd b q) := Lib.hid (fun q h3 h4 => by
              by_cases e : q = j
              · subst e; rw [HX.out, HY.out]; try exact hxy
              · exact HE.out q (by omega) h4)
            subst hxy
            go_wp2
            go_round
            case rel => exact ⟨(j : Int) - 1, rfl, by omega, by omega, HN⟩
            case measure => first | (simp [intOf]; done) | (simp [intOf]; omega)
          · have hne : ((x : Int) != (y : Int)) = true := bne_iff_ne.2 (by omega)
            have HM : Hid (moreB a b = decide ((y : Int) < (x : Int))) := Lib.hid (by
              unfold moreB;rcases Nat.lt_or_ge y x with h | h
              · rw [decide_eq_true (show (y : Int) < (x : Int) by omega)];exact decide_eq_true (more_val a b j (a.length + b.length + 1) (by omega) (by omega) DA.out DB.out (by omega) (fun q h3 h4 => HE.out q (by omega) (by omega)) (by rw [HX.out, HY.out]; exact h))
              · rw [decide_eq_false (show ¬ (y : Int) < (x : Int) by omega)];refine decide_eq_false (Nat.not_lt.2 (Nat.le_of_lt ?_))
                exact more_val b a j (a.length + b.length + 1) (by omega) (by omega) DB.out DA.out (by omega) (fun q h3 h4 => (HE.out q (by omega) (by omega)).symm) (by rw [HX.out, HY.out]; omega))
            go_wp2
            go_ret
            refine ⟨retB (Eq.trans ?_ HM.out.symm), rfl⟩
            first | rfl | exact decide_eq_decide.2 (by omega) | exact (decide_eq_true (by omega)).symm | exact (decide_eq_false (by omega)).symm
        · skip;obtain ⟨ba, oa, rfl, hba, hca0⟩ := HA.out j hja;simp only [hx] at hca0;have hyz : y = 0 := by rw [← hy]; exact wd_out b j (by omega)
          have hjbi : ¬ (j : Int) < (b.length : Int) := by omega
          clear hx hy;subst hyz
          by_cases hxy : x = 0
          · have HN : Hid (∀ q : Nat, (j : Int) - 1 < (q : Int) → q ≤ a.length + b.length → wd a q = wd b q) := Lib.hid (fun q h3 h4 => by
              by_cases e : q = j
              · subst e; rw [HX.out, HY.out]; try exact hxy
              · exact HE.out q (by omega) h4)
            subst hxy
            go_wp2
            go_round
            case rel => exact ⟨(j : Int) - 1, rfl, by omega, by omega, HN⟩
            case measure => first | (simp [intOf]; done) | (simp [intOf]; omega)
          · have hne : ((x : Int) != (0 : Int)) = true := bne_iff_ne.2 (by omega)
            have HM : Hid (moreB a b = decide ((0 : Int) < (x : Int))) := Lib.hid (by
              unfold moreB;rcases Nat.lt_or_ge 0 x with h | h
              · rw [decide_eq_true (show (0 : Int) < (x : Int) by omega)];exact decide_eq_true (more_val a b j (a.length + b.length + 1) (by omega) (by omega) DA.out DB.out (by omega) (fun q h3 h4 => HE.out q (by omega) (by omega)) (by rw [HX.out, HY.out]; exact h))
              · rw [decide_eq_false (show ¬ (0 : Int) < (x : Int) by omega)];refine decide_eq_false (Nat.not_lt.2 (Nat.le_of_lt ?_))
                exact more_val b a j (a.length + b.length + 1) (by omega) (by omega) DB.out DA.out (by omega) (fun q h3 h4 => (HE.out q (by omega) (by omega)).symm) (by rw [HX.out, HY.out]; omega))
            go_wp2
            go_ret
            refine ⟨retB (Eq.trans ?_ HM.out.symm), rfl⟩
            first | rfl | exact decide_eq_decide.2 (by omega) | exact (decide_eq_true (by omega)).symm | exact (decide_eq_false (by omega)).symm
      · by_cases hjb : j < b.length
        · skip;obtain ⟨bb, ob, rfl, hbb, hcb0⟩ := HB.out j hjb;simp only [hy] at hcb0;have hxz : x = 0 := by rw [← hx]; exact wd_out a j (by omega)
          have hjai : ¬ (j : Int) < (a.length : Int) := by omega
          clear hx hy;subst hxz
          by_cases hxy : 0 = y
          · have HN : Hid (∀ q : Nat, (j : Int) - 1 < (q : Int) → q ≤ a.length + b.length → wd a q = wd b q) := Lib.hid (fun q h3 h4 => by
              by_cases e : q = j
              · subst e; rw [HX.out, HY.out]; try exact hxy
              · exact HE.out q (by omega) h4)
            subst hxy
            go_wp2
            go_round
            case rel => exact ⟨(j : Int) - 1, rfl, by omega, by omega, HN⟩
            case measure => first | (simp [intOf]; done) | (simp [intOf]; omega)
          · have hne : ((0 : Int) != (y : Int)) = true := bne_iff_ne.2 (by omega)
            have HM : Hid (moreB a b = decide ((y : Int) < (0 : Int))) := Lib.hid (by
              unfold moreB;rcases Nat.lt_or_ge y 0 with h | h
              · rw [decide_eq_true (show (y : Int) < (0 : Int) by omega)];exact decide_eq_true (more_val a b j (a.length + b.length + 1) (by omega) (by omega) DA.out DB.out (by omega) (fun q h3 h4 => HE.out q (by omega) (by omega)) (by rw [HX.out, HY.out]; exact h))
              · rw [decide_eq_false (show ¬ (y : Int) < (0 : Int) by omega)];refine decide_eq_false (Nat.not_lt.2 (Nat.le_of_lt ?_))
                exact more_val b a j (a.length + b.length + 1) (by omega) (by omega) DB.out DA.out (by omega) (fun q h3 h4 => (HE.out q (by omega) (by omega)).symm) (by rw [HX.out, HY.out]; omega))
            go_wp2
            go_ret
            refine ⟨retB (Eq.trans ?_ HM.out.symm), rfl⟩
            first | rfl | exact decide_eq_decide.2 (by omega) | exact (decide_eq_true (by omega)).symm | exact (decide_eq_false (by omega)).symm
        · skip;have hxz : x = 0 := by rw [← hx]; exact wd_out a j (by omega)
          have hjai : ¬ (j : Int) < (a.length : Int) := by omega
          have hyz : y = 0 := by rw [← hy]; exact wd_out b j (by omega)
          have hjbi : ¬ (j : Int) < (b.length : Int) := by omega
          clear hx hy;subst hxz;subst hyz
          by_cases hxy : (0 : Nat) = 0
          · have HN : Hid (∀ q : Nat, (j : Int) - 1 < (q : Int) → q ≤ a.length + b.length → wd a q = wd b q) := Lib.hid (fun q h3 h4 => by
              by_cases e : q = j
              · subst e; rw [HX.out, HY.out]; try exact hxy
              · exact HE.out q (by omega) h4)
            go_wp2
            go_round
            case rel => exact ⟨(j : Int) - 1, rfl, by omega, by omega, HN⟩
            case measure => first | (simp [intOf]; done) | (simp [intOf]; omega)
          · exact absurd rfl hxy
    · have hsn : s = -1 := by omega
      subst hsn
      have HM : Hid (moreB a b = false) := Lib.hid (decide_eq_false (by
        have := same_val a b (a.length + b.length + 1) (by omega) (by omega) (fun j hj => HE.out j (by omega) (by omega))
        omega))
      go_wp2
      go_ret
      exact ⟨by rw [HM.out]; rfl, rfl⟩
theorem own_nin {w : World} {base : Nat} {l : List Nat} {g cap : Nat} (h : w.ownsRow base 3 1 (.slice (some ⟨g, 0, none⟩) l.length cap) l.length (l.map iV)) (hg : g < w.heap.size) : NIn w (some ⟨g, 0, none⟩) l := fun k hk =>
  ⟨g, 0, rfl, hg, by
    show _ = some (Value.int .i64 ((wd l k : Nat) : Int))
    rw [Nat.zero_add, h.cellAt k (by omega), List.getElem?_map, List.getElem?_eq_getElem hk, wd_in l k hk]; rfl⟩
set_option maxRecDepth 100000 in
set_option maxHeartbeats 1000000 in
theorem broken_cube (p v z : Nat) (w : World) (hp : p < 400) (h3 : v % 4294967296 = z) (h1 : v ^ 3 ≤ p * 65536 ^ 6) (h2 : p * 65536 ^ 6 < (v + 1) ^ 3) :
    Calls Tryd.prog 44 #[.int .i64 (p : Int), .bool true] w fun e w' => e = .returned (.int .i64 (z : Int)) ∧ Below w.heap.size w w' := by
  obtain ⟨i0, hi, hz0, hz1, hz2⟩ := info_parts infoI;obtain ⟨T, hT⟩ : ∃ T, p * 65536 ^ 6 = T := ⟨_, rfl⟩;rw [hT] at h1 h2;have H1 := Lib.hid h1;have H2 := Lib.hid h2;have H3 := Lib.hid h3;clear h3;have HTV : Hid (val (wantL 6 p) = T) := Lib.hid ((wantL_val 6 p).trans hT);have HT0 : Hid (T < 137438953472 ^ 3) := Lib.hid (by rw [← hT]; have : p * 65536 ^ 6 ≤ 399 * 65536 ^ 6 := Nat.mul_le_mul_right _ (by omega); exact Nat.lt_of_le_of_lt this (by decide));have HDW := Lib.hid (wantL_dig 6 p (by omega));clear h1 h2 hT
  go_enter Tryd.func44, Tryd.ntmps44
  go_wp2
  go_loopw [6, 7] (fun u i wr => ∃ k : Nat, k ≤ 6 ∧ i = .int .i64 k ∧ Hid (wr.ownsRow w.heap.size 3 1 u (List.replicate k 0).length ((List.replicate k 0).map iV)) ∧ Hid (Below w.heap.size w wr)) (fun _ i _ => 6 - (intOf i).toNat)
  case atStart => exact ⟨0, by omega, rfl, Lib.hid ⟨by simp, .inr ⟨w.heap.size, 0, #[], rfl, Nat.le_refl _, heap_alloc_new _ _, Nat.le_refl _, by unfold maxLen; omega, by simp, by simp⟩⟩, Lib.hid ((Below.refl _ _).alloc (Nat.le_refl _) _)⟩
  case round =>
    obtain ⟨k, hk, rfl, HO, HB⟩ := hrel;have hs1 := HB.out.size;have hrl : (List.replicate k (0 : Nat)).length = k := List.length_replicate
    by_cases hlt : k < 6
    · have hrl2 := Lib.hid hrl;clear hrl
      go_wp2_with (at_builtin; refine wpList_append_own _ rfl _ _ 25 rfl w.heap.size 3 i0 (.int .i64 0) 1 8 Tryd.underlying25 hi hz0 hz1 hz2 rfl (by decide) _ _ _ rfl (HO.out.alloc _) ⟨wr.heap.size, 0, none⟩ 1 1 [Value.int .i64 0] rfl rfl ?c1 ?c2 ?c3 ?c4 ?c5 ?_)
      case c1 => exact cell_one_new _ _ _
      case c2 => intro u hu; simp at hu; subst hu; rfl
      case c3 => rw [hrl2.out]; unfold maxLen; omega
      case c4 => rw [hrl2.out]; omega
      case c5 => simp; omega
      intro v' w1 hown' hgrow _;have HB2 := Lib.hid ((HB.out.alloc hs1 _).grown hgrow (by simp; omega) (fun k hk => (HO.out.lt k hk).1))
      have HO2 : Hid (w1.ownsRow w.heap.size 3 1 v' (List.replicate (k + 1) 0).length ((List.replicate (k + 1) 0).map iV)) := Lib.hid (by
        rw [List.length_replicate, List.map_replicate, List.replicate_succ']; exact hown')
      clear hown' hgrow
      go_wp2
      go_roundw
      case rel => exact ⟨k + 1, by omega, by go_num, HO2, HB2⟩
      case measure => simp [intOf]; omega
    · have hk6 : k = 6 := by omega
      subst hk6;clear hrl
      go_wp2_with (at_builtin; refine wpList_append_own _ rfl _ _ 25 rfl w.heap.size 3 i0 (.int .i64 0) 1 8 Tryd.underlying25 hi hz0 hz1 hz2 rfl (by decide) _ _ _ rfl (HO.out.alloc _) ⟨wr.heap.size, 0, none⟩ 1 1 [Value.int .i64 (p : Int)] rfl rfl ?d1 ?d2 ?d3 ?d4 ?d5 ?_)
      case d1 => exact cell_one_new _ _ _
      case d2 => intro u hu; simp at hu; subst hu; rfl
      case d3 => rw [List.length_replicate]; unfold maxLen; omega
      case d4 => rw [List.length_replicate]; omega
      case d5 => simp; omega
      intro v' w1 hown' hgrow _;have HB2 := Lib.hid ((HB.out.alloc hs1 _).grown hgrow (by simp; omega) (fun k hk => (HO.out.lt k hk).1));obtain ⟨g, cap, rfl, hgb, hgl⟩ := hown'.form (by omega);have HNW : Hid (NIn w1 (some ⟨g, 0, none⟩) (wantL 6 p)) := Lib.hid (own_nin (base := w.heap.size) (cap := cap) hown' hgl);clear hown' hgrow;have hwl : (wantL 6 p).length ≤ 20 := by simp [wantL]
      have hw1 : w.heap.size ≤ w1.heap.size := HB2.out.size
      go_wp2
      go_loopw [8, 9] (fun a b wr => ∃ lo hi : Nat, lo < hi ∧ hi ≤ 137438953472 ∧ a = .int .i64 lo ∧ b = .int .i64 hi ∧ Hid (lo ^ 3 ≤ T) ∧ Hid (T < hi ^ 3) ∧ Hid (Below w1.heap.size w1 wr)) (fun a b _ => (intOf b).toNat - (intOf a).toNat)
      case atStart => exact ⟨0, 137438953472, by omega, by omega, rfl, rfl, Lib.hid (by simp), HT0, Lib.hid (Below.refl _ _)⟩
      case round =>
        obtain ⟨lo, hi', hlh, hhi, rfl, rfl, HLo, HHi, HBl⟩ := hrel
        by_cases hgo : lo + 1 < hi'
        · obtain ⟨x, hx⟩ : ∃ x, (lo + hi') / 2 = x := ⟨_, rfl⟩;have hxi : ((lo : Int) + (hi' : Int)) / 2 = (x : Int) := by omega
          have hx0 : lo < x := by omega
          have hx1 : x < hi' := by omega
          clear hx
          go_wp2_with (go_at_call 56; refine (square_any x _ (by omega)).mono ?_; rintro e w2 ⟨o2, HL2, HD2, HV2, A2, c2, rfl, hN2, hb2, hf2⟩; refine Hid.out ?_)
          refine Lib.hid ?_;clear hxi;have HN2 := Lib.hid hN2;have HB3 := Lib.hid (HBl.out.trans (hb2.mono HBl.out.size));clear hN2 hb2
          go_wp2_with (go_at_call 58; refine (big_any x _ (by omega)).mono ?_; rintro e w3 ⟨A3, c3, rfl, hN3, hb3, hf3⟩; refine Hid.out ?_)
          refine Lib.hid ?_;have HN3 := Lib.hid hN3;have HN2' := Lib.hid (HN2.out.below hb3);have HB4 := Lib.hid (HB3.out.trans (hb3.mono HB3.out.size));clear hN3 hb3 HN2
          go_wp2_with (go_at_call 57; refine (product_any o2 (bigL x) A2 A3 c2 c3 _ HD2.out (bigL_dig x (by omega)) HN2'.out HN3.out (by rw [HL2.out]; decide) (by show 3 ≤ 20; decide)).mono ?_; rintro e w4 ⟨o4, HL4', HD4, HV4', A4, c4, rfl, hN4, hb4, hf4⟩; refine Hid.out ?_)
          refine Lib.hid ?_;have HL4 := Lib.hid (show o4.length = 11 by rw [HL4'.out, HL2.out]; rfl);have HV4 := Lib.hid (show val o4 = x * x * x by rw [HV4'.out, HV2.out, bigL_val]);have HN4 := Lib.hid hN4;have HB5 := Lib.hid (HB4.out.trans (hb4.mono HB4.out.size));clear hN4 hb4;obtain ⟨m, hm⟩ : ∃ m, moreB o4 (wantL 6 p) = m := ⟨_, rfl⟩;have HM : Hid (m = decide (T < x ^ 3)) := Lib.hid (by rw [← hm]; unfold moreB; rw [HTV.out, HV4.out, show x * x * x = x ^ 3 by rw [Nat.pow_succ, Nat.pow_two]])
          go_wp2_with (go_at_call 59; refine (more_any o4 (wantL 6 p) A4 (some ⟨g, 0, none⟩) c4 cap _ HD4.out HDW.out HN4.out (HNW.out.below HB5.out) (by rw [HL4.out]; decide) hwl).mono ?_; rintro e w' ⟨rfl, rfl⟩; refine Hid.out ?_)
          refine Lib.hid ?_;try rw [hm]
          clear hm
          by_cases hTx : T < x ^ 3
          · have hmt : m = true := by rw [HM.out]; exact decide_eq_true hTx
            subst hmt;have HTx := Lib.hid hTx;clear hTx
            go_wp2
            go_roundw
            case rel => exact ⟨lo, x, by omega, by omega, rfl, rfl, HLo, HTx, HB5⟩
            case measure => simp [intOf]; omega
          · have hmf : m = false := by rw [HM.out]; exact decide_eq_false hTx
            subst hmf;have HTx := Lib.hid (Nat.le_of_not_lt hTx);clear hTx
            go_wp2
            go_roundw
            case rel => exact ⟨x, hi', by omega, by omega, rfl, rfl, HTx, HHi, HB5⟩
            case measure => simp [intOf]; omega
        · have hh1 : hi' = lo + 1 := by omega
          subst hh1;have HR : Hid (lo = v) := Lib.hid (root_one 3 T lo v (by omega) HLo.out HHi.out H1.out H2.out)
          go_wp2
          go_ret
          refine ⟨retI ?_, HB2.out.trans (HBl.out.mono hw1)⟩;rw [HR.out]; have := H3.out; omega
set_option maxRecDepth 100000 in
set_option maxHeartbeats 1000000 in
theorem broken_sq (p v z : Nat) (w : World) (hp : p < 400) (h3 : v % 4294967296 = z) (h1 : v ^ 2 ≤ p * 65536 ^ 4) (h2 : p * 65536 ^ 4 < (v + 1) ^ 2) :
    Calls Tryd.prog 44 #[.int .i64 (p : Int), .bool false] w fun e w' => e = .returned (.int .i64 (z : Int)) ∧ Below w.heap.size w w' := by
  obtain ⟨i0, hi, hz0, hz1, hz2⟩ := info_parts infoI;obtain ⟨T, hT⟩ : ∃ T, p * 65536 ^ 4 = T := ⟨_, rfl⟩;rw [hT] at h1 h2;have H1 := Lib.hid h1;have H2 := Lib.hid h2;have H3 := Lib.hid h3;clear h3;have HTV : Hid (val (wantL 4 p) = T) := Lib.hid ((wantL_val 4 p).trans hT);have HT0 : Hid (T < 137438953472 ^ 2) := Lib.hid (by rw [← hT]; have : p * 65536 ^ 4 ≤ 399 * 65536 ^ 4 := Nat.mul_le_mul_right _ (by omega); exact Nat.lt_of_le_of_lt this (by decide));have HDW := Lib.hid (wantL_dig 4 p (by omega));clear h1 h2 hT
  go_enter Tryd.func44, Tryd.ntmps44
  go_wp2
  go_loopw [6, 7] (fun u i wr => ∃ k : Nat, k ≤ 4 ∧ i = .int .i64 k ∧ Hid (wr.ownsRow w.heap.size 3 1 u (List.replicate k 0).length ((List.replicate k 0).map iV)) ∧ Hid (Below w.heap.size w wr)) (fun _ i _ => 4 - (intOf i).toNat)
  case atStart => exact ⟨0, by omega, rfl, Lib.hid ⟨by simp, .inr ⟨w.heap.size, 0, #[], rfl, Nat.le_refl _, heap_alloc_new _ _, Nat.le_refl _, by unfold maxLen; omega, by simp, by simp⟩⟩, Lib.hid ((Below.refl _ _).alloc (Nat.le_refl _) _)⟩
  case round =>
    obtain ⟨k, hk, rfl, HO, HB⟩ := hrel;have hs1 := HB.out.size;have hrl : (List.replicate k (0 : Nat)).length = k := List.length_replicate
    by_cases hlt : k < 4
    · have hrl2 := Lib.hid hrl;clear hrl
      go_wp2_with (at_builtin; refine wpList_append_own _ rfl _ _ 25 rfl w.heap.size 3 i0 (.int .i64 0) 1 8 Tryd.underlying25 hi hz0 hz1 hz2 rfl (by decide) _ _ _ rfl (HO.out.alloc _) ⟨wr.heap.size, 0, none⟩ 1 1 [Value.int .i64 0] rfl rfl ?c1 ?c2 ?c3 ?c4 ?c5 ?_)
      case c1 => exact cell_one_new _ _ _
      case c2 => intro u hu; simp at hu; subst hu; rfl
      case c3 => rw [hrl2.out]; unfold maxLen; omega
      case c4 => rw [hrl2.out]; omega
      case c5 => simp; omega
      intro v' w1 hown' hgrow _;have HB2 := Lib.hid ((HB.out.alloc hs1 _).grown hgrow (by simp; omega) (fun k hk => (HO.out.lt k hk).1))
      have HO2 : Hid (w1.ownsRow w.heap.size 3 1 v' (List.replicate (k + 1) 0).length ((List.replicate (k + 1) 0).map iV)) := Lib.hid (by
        rw [List.length_replicate, List.map_replicate, List.replicate_succ']; exact hown')
      clear hown' hgrow
      go_wp2
      go_roundw
      case rel => exact ⟨k + 1, by omega, by go_num, HO2, HB2⟩
      case measure => simp [intOf]; omega
    · have hk6 : k = 4 := by omega
      subst hk6;clear hrl
      go_wp2_with (at_builtin; refine wpList_append_own _ rfl _ _ 25 rfl w.heap.size 3 i0 (.int .i64 0) 1 8 Tryd.underlying25 hi hz0 hz1 hz2 rfl (by decide) _ _ _ rfl (HO.out.alloc _) ⟨wr.heap.size, 0, none⟩ 1 1 [Value.int .i64 (p : Int)] rfl rfl ?d1 ?d2 ?d3 ?d4 ?d5 ?_)
      case d1 => exact cell_one_new _ _ _
      case d2 => intro u hu; simp at hu; subst hu; rfl
      case d3 => rw [List.length_replicate]; unfold maxLen; omega
      case d4 => rw [List.length_replicate]; omega
      case d5 => simp; omega
      intro v' w1 hown' hgrow _;have HB2 := Lib.hid ((HB.out.alloc hs1 _).grown hgrow (by simp; omega) (fun k hk => (HO.out.lt k hk).1));obtain ⟨g, cap, rfl, hgb, hgl⟩ := hown'.form (by omega);have HNW : Hid (NIn w1 (some ⟨g, 0, none⟩) (wantL 4 p)) := Lib.hid (own_nin (base := w.heap.size) (cap := cap) hown' hgl);clear hown' hgrow;have hwl : (wantL 4 p).length ≤ 20 := by simp [wantL]
      have hw1 : w.heap.size ≤ w1.heap.size := HB2.out.size
      go_wp2
      go_loopw [8, 9] (fun a b wr => ∃ lo hi : Nat, lo < hi ∧ hi ≤ 137438953472 ∧ a = .int .i64 lo ∧ b = .int .i64 hi ∧ Hid (lo ^ 2 ≤ T) ∧ Hid (T < hi ^ 2) ∧ Hid (Below w1.heap.size w1 wr)) (fun a b _ => (intOf b).toNat - (intOf a).toNat)
      case atStart => exact ⟨0, 137438953472, by omega, by omega, rfl, rfl, Lib.hid (by simp), HT0, Lib.hid (Below.refl _ _)⟩
      case round =>
        obtain ⟨lo, hi', hlh, hhi, rfl, rfl, HLo, HHi, HBl⟩ := hrel
        by_cases hgo : lo + 1 < hi'
        · obtain ⟨x, hx⟩ : ∃ x, (lo + hi') / 2 = x := ⟨_, rfl⟩;have hxi : ((lo : Int) + (hi' : Int)) / 2 = (x : Int) := by omega
          have hx0 : lo < x := by omega
          have hx1 : x < hi' := by omega
          clear hx
          go_wp2_with (go_at_call 56; refine (square_any x _ (by omega)).mono ?_; rintro e w2 ⟨o2, HL2, HD2, HV2, A2, c2, rfl, hN2, hb2, hf2⟩; refine Hid.out ?_)
          refine Lib.hid ?_;clear hxi;have HN2 := Lib.hid hN2;have HB3 := Lib.hid (HBl.out.trans (hb2.mono HBl.out.size));clear hN2 hb2;obtain ⟨m, hm⟩ : ∃ m, moreB o2 (wantL 4 p) = m := ⟨_, rfl⟩;have HM : Hid (m = decide (T < x ^ 2)) := Lib.hid (by rw [← hm]; unfold moreB; rw [HTV.out, HV2.out, Nat.pow_two])
          go_wp2_with (go_at_call 59; refine (more_any o2 (wantL 4 p) A2 (some ⟨g, 0, none⟩) c2 cap _ HD2.out HDW.out HN2.out (HNW.out.below HB3.out) (by rw [HL2.out]; decide) hwl).mono ?_; rintro e w' ⟨rfl, rfl⟩; refine Hid.out ?_)
          refine Lib.hid ?_;try rw [hm]
          clear hm
          by_cases hTx : T < x ^ 2
          · have hmt : m = true := by rw [HM.out]; exact decide_eq_true hTx
            subst hmt;have HTx := Lib.hid hTx;clear hTx
            go_wp2
            go_roundw
            case rel => exact ⟨lo, x, by omega, by omega, rfl, rfl, HLo, HTx, HB3⟩
            case measure => simp [intOf]; omega
          · have hmf : m = false := by rw [HM.out]; exact decide_eq_false hTx
            subst hmf;have HTx := Lib.hid (Nat.le_of_not_lt hTx);clear hTx
            go_wp2
            go_roundw
            case rel => exact ⟨x, hi', by omega, by omega, rfl, rfl, HTx, HHi, HB3⟩
            case measure => simp [intOf]; omega
        · have hh1 : hi' = lo + 1 := by omega
          subst hh1;have HR : Hid (lo = v) := Lib.hid (root_one 2 T lo v (by omega) HLo.out HHi.out H1.out H2.out)
          go_wp2
          go_ret
          refine ⟨retI ?_, HB2.out.trans (HBl.out.mono hw1)⟩;rw [HR.out]; have := H3.out; omega
end Go.Proofs.YtcamanopfhbchaaDoor.Sha
end
section
namespace Go.Proofs.YtcamanopfhbchaaDoor.Sha
open Go.RowKit Go.Lib
attribute [local go_sem ↓] Go.wp_at_zero Go.wp_at_succ
theorem all_take (l : List Nat) (f : Nat → Bool) (j : Nat) (h : j < l.length) : (l.take (j + 1)).all f = ((l.take j).all f && f (wd l j)) := by
  rw [List.take_succ_eq_append_getElem h, List.all_append, wd_in l j h]; simp
theorem own_lit {w : World} {base : Nat} {t : TypeId} (o : Nat) (ho : base ≤ o) (h : w.heap[o]? = some (.cells #[] t (0, 0))) : w.ownsRow base t 1 (.slice (some ⟨o, 0, none⟩) 0 0) 0 [] :=
  ⟨by simp, .inr ⟨o, 0, #[], rfl, ho, h, Nat.le_refl _, by unfold maxLen; omega, by simp, by simp⟩⟩
set_option maxRecDepth 100000 in
set_option maxHeartbeats 1000000 in
theorem primes_any (n X : Nat) (w : World) (hX : (prm X).length = n) (hL : ∀ k, k < X → (prm k).length < n) (hX4 : X ≤ 400) :
    Calls Tryd.prog 43 #[.int .i64 (n : Int)] w (RetI w (prm X)) := by
  obtain ⟨i0, hi, hz0, hz1, hz2⟩ := info_parts infoI;have HX := Lib.hid hX;have HL := Lib.hid hL;have hn4 : n ≤ 400 := by have := (prm_le X).1; omega
  clear hX hL
  go_enter Tryd.func43, Tryd.ntmps43
  go_wp2
  go_loopw [3, 4] (fun v y wr => ∃ (k x L c : Nat) (A : Option Addr) (l : List Nat), k ≤ X ∧ y = .int .i64 x ∧ x ≤ 402 ∧ Hid (x = k + 2) ∧ Hid (l = prm k) ∧ L ≤ 400 ∧ Hid (L = l.length) ∧ v = .slice A L c ∧ Hid (wr.ownsRow w.heap.size 3 1 (.slice A L c) L (l.map iV)) ∧ Hid (Below w.heap.size w wr)) (fun _ y _ => X + 2 - (intOf y).toNat)
  case atStart => exact ⟨0, 2, 0, 0, some ⟨w.heap.size, 0, none⟩, [], by omega, rfl, by omega, Lib.hid rfl, Lib.hid rfl, by omega, Lib.hid rfl, rfl, Lib.hid (own_lit _ (Nat.le_refl _) (heap_alloc_new _ _)), Lib.hid ((Below.refl _ _).alloc (Nat.le_refl _) _)⟩
  case round =>
    obtain ⟨k, x, L, c, A, l, hk, rfl, hx4, HXk, HLk, hL4, HLn, rfl, HO, HB⟩ := hrel;have hs1 := HB.out.size
    by_cases hlt : k < X
    · have hLn : L < n := by rw [HLn.out, HLk.out]; exact HL.out k hlt
      go_wp2
      go_loop [5, 6] (fun u i => ∃ (j : Nat) (b : Bool), j ≤ L ∧ i = .int .i64 j ∧ u = .bool b ∧ Hid (b = (l.take j).all (fun p => x % p != 0))) (fun _ i => L - (intOf i).toNat)
      case atStart => exact ⟨0, true, by omega, rfl, rfl, Lib.hid rfl⟩
      case round =>
        obtain ⟨j, b, hj, rfl, rfl, HBo⟩ := hrel
        by_cases hjl : j < L
        · obtain ⟨p, hp⟩ : ∃ p, wd l j = p := ⟨_, rfl⟩;have hjl' : j < l.length := by rw [← HLn.out]; exact hjl
          have hp2 : 2 ≤ p := by rw [← hp, wd_in l j hjl', ← Nat.add_zero 2]; exact ((prm_le k).2 _ (by rw [← HLk.out]; exact List.getElem_mem hjl')).1
          have hp4 : p ≤ 402 := by
            have := ((prm_le k).2 (wd l j) (by rw [wd_in l j hjl']; rw [← HLk.out]; exact List.getElem_mem hjl')).2;omega
          obtain ⟨g, cap, hA, hgb, hgl⟩ := HO.out.form (by omega);have hA' : A = some ⟨g, 0, none⟩ := by injection hA
          subst hA'
          have hcell : wr.cell? ⟨g, j, none⟩ = some (.int .i64 (p : Int)) := by
            rw [HO.out.cellAt j (by omega), List.getElem?_map, List.getElem?_eq_getElem hjl', ← hp, wd_in l j hjl']; rfl
          have HT := Lib.hid (all_take l (fun p => x % p != 0) j hjl');rw [hp] at HT;clear hp hA;have hp0 : ¬ (p : Int) = 0 := by omega
          by_cases hd : x % p = 0
          · have hdi : ((x : Int) % (p : Int) == 0) = true := beq_iff_eq.2 (by rw [← Int.natCast_emod, hd]; rfl);have HF : Hid (false = (l.take (j + 1)).all (fun p => x % p != 0)) := Lib.hid (by rw [HT.out, hd]; simp);clear hd
            go_wp2
            go_round
            case rel => exact ⟨j + 1, false, by omega, by go_num, rfl, HF⟩
            case measure => simp [intOf]; omega
          · have hdi : ((x : Int) % (p : Int) == 0) = false := beq_eq_false_iff_ne.2 (by rw [← Int.natCast_emod]; omega);have HF : Hid (b = (l.take (j + 1)).all (fun p => x % p != 0)) := Lib.hid (by rw [HT.out, ← HBo.out]; simp [hd]);clear hd
            go_wp2
            go_round
            case rel => exact ⟨j + 1, b, by omega, by go_num, rfl, HF⟩
            case measure => simp [intOf]; omega
        · have hjL : j = L := by omega
          subst hjL;have HAll : Hid (b = l.all (fun p => x % p != 0)) := Lib.hid (by rw [HBo.out, List.take_of_length_le (by rw [HLn.out]; exact Nat.le_refl _)])
          cases b with
          | true =>
            have HP : Hid (prm (k + 1) = l ++ [x]) := Lib.hid (by rw [prm, ← HLk.out, ← HXk.out, if_pos HAll.out.symm])
            go_wp2_with (at_builtin; refine wpList_append_lies _ rfl _ _ 25 rfl w.heap.size 3 i0 (.int .i64 0) 1 8 Tryd.underlying25 hi hz0 hz1 hz2 rfl (by decide) _ _ _ rfl (HO.out.alloc _) ⟨wr.heap.size, 0, none⟩ 1 1 [Value.int .i64 (x : Int)] rfl rfl (cell_one_new _ _ _) (by simp [Value.oneCell']) (by omega) (by unfold maxLen; omega) (by omega) (by simp; omega) (wr.heap.size + 1) (by simp) ?_)
            intro g cap w1 hown' hgrow hat hgl;have HB2 := Lib.hid ((HB.out.alloc hs1 _).grown hgrow (by simp; omega) (fun k hk => (HO.out.lt k hk).1));have HO2 := Lib.hid hown';clear hown' hgrow hat
            go_wp2
            go_roundw
            case rel => exact ⟨k + 1, x + 1, j + 1, cap, some ⟨g, 0, none⟩, l ++ [x], by omega, by go_num, by have := HXk.out; omega, Lib.hid (by have := HXk.out; omega), Lib.hid HP.out.symm, by omega, Lib.hid (by rw [List.length_append, ← HLn.out]; rfl), rfl, Lib.hid (by rw [List.map_append]; exact HO2.out), HB2⟩
            case measure => simp [intOf]; have := HXk.out; omega
          | false =>
            have HP : Hid (prm (k + 1) = l) := Lib.hid (by rw [prm, ← HLk.out, ← HXk.out, if_neg (by rw [← HAll.out]; decide)])
            go_wp2
            go_roundw
            case rel => exact ⟨k + 1, x + 1, j, c, A, l, by omega, by go_num, by have := HXk.out; omega, Lib.hid (by have := HXk.out; omega), Lib.hid HP.out.symm, by omega, HLn, rfl, HO, HB⟩
            case measure => simp [intOf]; have := HXk.out; omega
    · have hkX : k = X := by omega
      subst hkX;have hLn : L = n := by rw [HLn.out, HLk.out]; exact HX.out
      subst hLn
      go_wp2
      go_ret
      have hl : l.length = L := HLn.out.symm;have hO := HO.out
      have e : RetI w l (.returned (.slice A L c)) wr := by
        rcases hO.2 with ⟨h1, h2⟩ | ⟨g, cap, cur, h1, hb, hg, _⟩
        · injection h1 with h1
          subst h1;refine ⟨none, c, by rw [hl], fun q hq => ?_, HB.out, fun b o e => by cases e⟩;omega
        · injection h1 with h1
          subst h1;refine ⟨some ⟨g, 0, none⟩, c, by rw [hl], own_nin (base := w.heap.size) (cap := c) (by rw [hl]; exact hO) (Array.getElem?_eq_some_iff.1 hg).1, HB.out, fun b o e => by cases e; exact hb⟩
      rw [HLk.out] at e;exact e
set_option maxRecDepth 100000 in
set_option maxHeartbeats 1000000 in
theorem refK_any (w : World) : Calls Tryd.prog 30 #[] w (RetI w kk) := by
  obtain ⟨i0, hi, hz0, hz1, hz2⟩ := info_parts infoI;have HPL : Hid ((prm 310).length = 64) := Lib.hid prm64;have HLL : Hid (∀ k, k < 310 → (prm k).length < 64) := Lib.hid (fun k hk => Nat.lt_of_le_of_lt (prm_mono k 309 (by omega)) (by rw [prm63]; decide));obtain ⟨P, hP⟩ : ∃ P, prm 310 = P := ⟨_, rfl⟩;have hPR := primes_any 64 310;rw [hP] at HPL hPR;have HRT : Hid (∀ i, i < 64 → (rootC (wd P i) (wd kk i)) ^ 3 ≤ wd P i * 65536 ^ 6 ∧ wd P i * 65536 ^ 6 < (rootC (wd P i) (wd kk i) + 1) ^ 3 ∧ rootC (wd P i) (wd kk i) % 4294967296 = wd kk i ∧ wd P i < 400) := Lib.hid (by rw [← hP]; exact roots_k);have HPR := Lib.hid hPR;clear hP hPR
  go_enter Tryd.func30, Tryd.ntmps30
  go_wp2_with (go_at_call 43; refine (HPR.out _ HPL.out HLL.out (by omega)).mono ?_; rintro e w1 ⟨A, cA, rfl, hN, hb1, hfr⟩; refine Hid.out ?_)
  refine Lib.hid ?_;obtain ⟨bP, oP, rfl, hbP, _⟩ := hN 0 (by rw [HPL.out]; decide);have hbF : w.heap.size + 1 ≤ bP := by have := hfr bP oP rfl; simp at this; omega
  have HN := Lib.hid hN;have hb0 : Below w.heap.size w w1 := ((Below.refl w.heap.size w).alloc (Nat.le_refl _) _).trans (hb1.mono (by simp));have HB1 := Lib.hid hb0;have HO1 : Hid (w1.ownsRow w.heap.size 3 1 (.slice (some ⟨w.heap.size, 0, none⟩) 0 0) 0 []) := Lib.hid (own_lit _ (Nat.le_refl _) ((hb1.block w.heap.size (by simp)).trans (heap_alloc_new _ _)));have hw1 : w.heap.size < w1.heap.size := by have := hb1.size; simp at this; omega
  clear hN hb1 hb0 hfr;have hPl : P.length = 64 := HPL.out;rw [hPl];clear hPl
  go_wp2
  go_loopw [1, 3] (fun v i wr => ∃ (k c ga : Nat), k ≤ 64 ∧ i = .int .i64 k ∧ v = .slice (some ⟨ga, 0, none⟩) k c ∧ ga ≠ bP ∧ Hid (wr.ownsRow w.heap.size 3 1 (.slice (some ⟨ga, 0, none⟩) k c) k ((kk.take k).map iV)) ∧ Hid (Below w.heap.size w wr) ∧ Hid (NIn wr (some ⟨bP, oP, none⟩) P)) (fun _ i _ => 64 - (intOf i).toNat)
  case atStart => exact ⟨0, 0, w.heap.size, by omega, rfl, rfl, by omega, HO1, HB1, HN⟩
  case round =>
    clear HO1 HB1 HN;obtain ⟨k, c, ga, hk, rfl, rfl, hga, HO, HB, HN⟩ := hrel;have hs1 := HB.out.size
    by_cases hlt : k < 64
    · obtain ⟨b, o, hbo, hbl, hc0⟩ := HN.out k (by rw [HPL.out]; exact hlt);obtain ⟨rfl, rfl⟩ : bP = b ∧ oP = o := by cases hbo; exact ⟨rfl, rfl⟩
      clear hbo;obtain ⟨p, hp⟩ : ∃ p, wd P k = p := ⟨_, rfl⟩;simp only [hp] at hc0;have HR := Lib.hid (HRT.out k hlt);rw [hp] at HR;obtain ⟨z, hz⟩ : ∃ z, wd kk k = z := ⟨_, rfl⟩;rw [hz] at HR;have HZ := Lib.hid hz;clear hp hz
      go_wp2_with (go_at_call 44; refine (broken_cube p (rootC p z) z _ HR.out.2.2.2 HR.out.2.2.1 HR.out.1 HR.out.2.1).mono ?_; rintro e w2 ⟨rfl, hb2⟩; refine Hid.out ?_)
      refine Lib.hid ?_;have HN2 : Hid (NIn w2 (some ⟨bP, oP, none⟩) P) := Lib.hid (HN.out.below hb2);have HO2 : Hid (w2.ownsRow w.heap.size 3 1 (.slice (some ⟨ga, 0, none⟩) k c) k ((kk.take k).map iV)) := Lib.hid (HO.out.kept (row := none) ⟨hb2.os, hb2.tape, hb2.output, hb2.size, fun q hq _ => hb2.block q hq⟩ (by simp [Value.ownBlock]));have HB2 := Lib.hid (HB.out.trans (hb2.mono HB.out.size));have hs2 : w.heap.size ≤ w2.heap.size := HB2.out.size;clear hb2 hc0
      go_wp2_with (at_builtin; refine wpList_append_lies _ rfl _ _ 25 rfl w.heap.size 3 i0 (.int .i64 0) 1 8 Tryd.underlying25 hi hz0 hz1 hz2 rfl (by decide) _ _ _ rfl (HO2.out.alloc _) ⟨w2.heap.size, 0, none⟩ 1 1 [Value.int .i64 (z : Int)] rfl rfl (cell_one_new _ _ _) (by simp [Value.oneCell']) (by omega) (by unfold maxLen; omega) (by omega) (by simp; omega) (w2.heap.size + 1) (by simp) ?_)
      intro g cap w3 hown' hgrow hat hgl;have HB3 := Lib.hid ((HB2.out.alloc hs2 _).grown hgrow (by simp; omega) (fun k hk => (HO2.out.lt k hk).1));have hbl2 : bP < w2.heap.size := (HN2.out k (by rw [HPL.out]; exact hlt)).elim fun b h => h.elim fun o h => by cases h.1; exact h.2.1
      have hgn : g ≠ bP := by
        rcases hat with h | h
        · simp [Value.ownBlock] at h; omega
        · omega
      have HN3 : Hid (NIn w3 (some ⟨bP, oP, none⟩) P) := Lib.hid (fun q hq => by
        obtain ⟨b', o', hbo, hb', hc'⟩ := HN2.out q hq;obtain ⟨rfl, rfl⟩ : bP = b' ∧ oP = o' := by cases hbo; exact ⟨rfl, rfl⟩
        refine ⟨bP, oP, rfl, by have := HB3.out.size; have := hgrow.size; simp at this; omega, ?_⟩
        refine (World.cell?_of_block (w := w2.alloc (.cells #[.int .i64 (z : Int)] 3)) (hgrow.block bP (by simp; omega) (by simp [Value.ownBlock]; omega))).trans ((World.cell?_alloc_lt w2 _ ⟨bP, oP + q, none⟩ hb').trans hc'))
      have HO3 : Hid (w3.ownsRow w.heap.size 3 1 (.slice (some ⟨g, 0, none⟩) (k + 1) cap) (k + 1) ((kk.take (k + 1)).map iV)) := Lib.hid (by
        rw [List.take_succ_eq_append_getElem (by simpa [kk] using hlt), List.map_append]
        have : [Value.int .i64 (z : Int)] = [kk[k]'(by simpa [kk] using hlt)].map iV := by
          rw [← HZ.out, wd_in kk k (by simpa [kk] using hlt)]; rfl
        rw [← this, List.map_take]; exact hown')
      clear hown' hgrow hat
      go_wp2
      go_roundw
      case rel => exact ⟨k + 1, cap, g, by omega, by go_num, rfl, hgn, HO3, HB3, HN3⟩
      case measure => simp [intOf]; omega
    · have hk8 : k = 64 := by omega
      subst hk8;have hgg := HO.out.lt ga rfl
      go_wp2
      go_ret
      refine ⟨some ⟨ga, 0, none⟩, c, rfl, own_nin (base := w.heap.size) (cap := c) ?_ hgg.2, HB.out, fun b o e => by cases e; exact hgg.1⟩;have h := HO.out;rw [List.take_of_length_le (by decide)] at h;exact h
set_option maxRecDepth 100000 in
set_option maxHeartbeats 1000000 in
theorem refH_any (w : World) : Calls Tryd.prog 31 #[] w (RetI w hh) := by
  obtain ⟨i0, hi, hz0, hz1, hz2⟩ := info_parts infoI;have HPL : Hid ((prm 18).length = 8) := Lib.hid prm8;have HLL : Hid (∀ k, k < 18 → (prm k).length < 8) := Lib.hid (fun k hk => Nat.lt_of_le_of_lt (prm_mono k 17 (by omega)) (by rw [prm7]; decide));obtain ⟨P, hP⟩ : ∃ P, prm 18 = P := ⟨_, rfl⟩;have hPR := primes_any 8 18;rw [hP] at HPL hPR;have HRT : Hid (∀ i, i < 8 → (rootS (wd P i) (wd hh i)) ^ 2 ≤ wd P i * 65536 ^ 4 ∧ wd P i * 65536 ^ 4 < (rootS (wd P i) (wd hh i) + 1) ^ 2 ∧ rootS (wd P i) (wd hh i) % 4294967296 = wd hh i ∧ wd P i < 400) := Lib.hid (by rw [← hP]; exact roots_h);have HPR := Lib.hid hPR;clear hP hPR
  go_enter Tryd.func31, Tryd.ntmps31
  go_wp2_with (go_at_call 43; refine (HPR.out _ HPL.out HLL.out (by omega)).mono ?_; rintro e w1 ⟨A, cA, rfl, hN, hb1, hfr⟩; refine Hid.out ?_)
  refine Lib.hid ?_;obtain ⟨bP, oP, rfl, hbP, _⟩ := hN 0 (by rw [HPL.out]; decide);have hbF : w.heap.size + 1 ≤ bP := by have := hfr bP oP rfl; simp at this; omega
  have HN := Lib.hid hN;have hb0 : Below w.heap.size w w1 := ((Below.refl w.heap.size w).alloc (Nat.le_refl _) _).trans (hb1.mono (by simp));have HB1 := Lib.hid hb0;have HO1 : Hid (w1.ownsRow w.heap.size 3 1 (.slice (some ⟨w.heap.size, 0, none⟩) 0 0) 0 []) := Lib.hid (own_lit _ (Nat.le_refl _) ((hb1.block w.heap.size (by simp)).trans (heap_alloc_new _ _)));have hw1 : w.heap.size < w1.heap.size := by have := hb1.size; simp at this; omega
  clear hN hb1 hb0 hfr;have hPl : P.length = 8 := HPL.out;rw [hPl];clear hPl
  go_wp2
  go_loopw [1, 3] (fun v i wr => ∃ (k c ga : Nat), k ≤ 8 ∧ i = .int .i64 k ∧ v = .slice (some ⟨ga, 0, none⟩) k c ∧ ga ≠ bP ∧ Hid (wr.ownsRow w.heap.size 3 1 (.slice (some ⟨ga, 0, none⟩) k c) k ((hh.take k).map iV)) ∧ Hid (Below w.heap.size w wr) ∧ Hid (NIn wr (some ⟨bP, oP, none⟩) P)) (fun _ i _ => 8 - (intOf i).toNat)
  case atStart => exact ⟨0, 0, w.heap.size, by omega, rfl, rfl, by omega, HO1, HB1, HN⟩
  case round =>
    clear HO1 HB1 HN;obtain ⟨k, c, ga, hk, rfl, rfl, hga, HO, HB, HN⟩ := hrel;have hs1 := HB.out.size
    by_cases hlt : k < 8
    · obtain ⟨b, o, hbo, hbl, hc0⟩ := HN.out k (by rw [HPL.out]; exact hlt);obtain ⟨rfl, rfl⟩ : bP = b ∧ oP = o := by cases hbo; exact ⟨rfl, rfl⟩
      clear hbo;obtain ⟨p, hp⟩ : ∃ p, wd P k = p := ⟨_, rfl⟩;simp only [hp] at hc0;have HR := Lib.hid (HRT.out k hlt);rw [hp] at HR;obtain ⟨z, hz⟩ : ∃ z, wd hh k = z := ⟨_, rfl⟩;rw [hz] at HR;have HZ := Lib.hid hz;clear hp hz
      go_wp2_with (go_at_call 44; refine (broken_sq p (rootS p z) z _ HR.out.2.2.2 HR.out.2.2.1 HR.out.1 HR.out.2.1).mono ?_; rintro e w2 ⟨rfl, hb2⟩; refine Hid.out ?_)
      refine Lib.hid ?_;have HN2 : Hid (NIn w2 (some ⟨bP, oP, none⟩) P) := Lib.hid (HN.out.below hb2);have HO2 : Hid (w2.ownsRow w.heap.size 3 1 (.slice (some ⟨ga, 0, none⟩) k c) k ((hh.take k).map iV)) := Lib.hid (HO.out.kept (row := none) ⟨hb2.os, hb2.tape, hb2.output, hb2.size, fun q hq _ => hb2.block q hq⟩ (by simp [Value.ownBlock]));have HB2 := Lib.hid (HB.out.trans (hb2.mono HB.out.size));have hs2 : w.heap.size ≤ w2.heap.size := HB2.out.size;clear hb2 hc0
      go_wp2_with (at_builtin; refine wpList_append_lies _ rfl _ _ 25 rfl w.heap.size 3 i0 (.int .i64 0) 1 8 Tryd.underlying25 hi hz0 hz1 hz2 rfl (by decide) _ _ _ rfl (HO2.out.alloc _) ⟨w2.heap.size, 0, none⟩ 1 1 [Value.int .i64 (z : Int)] rfl rfl (cell_one_new _ _ _) (by simp [Value.oneCell']) (by omega) (by unfold maxLen; omega) (by omega) (by simp; omega) (w2.heap.size + 1) (by simp) ?_)
      intro g cap w3 hown' hgrow hat hgl;have HB3 := Lib.hid ((HB2.out.alloc hs2 _).grown hgrow (by simp; omega) (fun k hk => (HO2.out.lt k hk).1));have hbl2 : bP < w2.heap.size := (HN2.out k (by rw [HPL.out]; exact hlt)).elim fun b h => h.elim fun o h => by cases h.1; exact h.2.1
      have hgn : g ≠ bP := by
        rcases hat with h | h
        · simp [Value.ownBlock] at h; omega
        · omega
      have HN3 : Hid (NIn w3 (some ⟨bP, oP, none⟩) P) := Lib.hid (fun q hq => by
        obtain ⟨b', o', hbo, hb', hc'⟩ := HN2.out q hq;obtain ⟨rfl, rfl⟩ : bP = b' ∧ oP = o' := by cases hbo; exact ⟨rfl, rfl⟩
        refine ⟨bP, oP, rfl, by have := HB3.out.size; have := hgrow.size; simp at this; omega, ?_⟩
        refine (World.cell?_of_block (w := w2.alloc (.cells #[.int .i64 (z : Int)] 3)) (hgrow.block bP (by simp; omega) (by simp [Value.ownBlock]; omega))).trans ((World.cell?_alloc_lt w2 _ ⟨bP, oP + q, none⟩ hb').trans hc'))
      have HO3 : Hid (w3.ownsRow w.heap.size 3 1 (.slice (some ⟨g, 0, none⟩) (k + 1) cap) (k + 1) ((hh.take (k + 1)).map iV)) := Lib.hid (by
        rw [List.take_succ_eq_append_getElem (by simpa [hh] using hlt), List.map_append]
        have : [Value.int .i64 (z : Int)] = [hh[k]'(by simpa [hh] using hlt)].map iV := by
          rw [← HZ.out, wd_in hh k (by simpa [hh] using hlt)]; rfl
        rw [← this, List.map_take]; exact hown')
      clear hown' hgrow hat
      go_wp2
      go_roundw
      case rel => exact ⟨k + 1, cap, g, by omega, by go_num, rfl, hgn, HO3, HB3, HN3⟩
      case measure => simp [intOf]; omega
    · have hk8 : k = 8 := by omega
      subst hk8;have hgg := HO.out.lt ga rfl
      go_wp2
      go_ret
      refine ⟨some ⟨ga, 0, none⟩, c, rfl, own_nin (base := w.heap.size) (cap := c) ?_ hgg.2, HB.out, fun b o e => by cases e; exact hgg.1⟩;have h := HO.out;rw [List.take_of_length_le (by decide)] at h;exact h
end Go.Proofs.YtcamanopfhbchaaDoor.Sha
end
section
namespace Go.Proofs.YtcamanopfhbchaaDoor.Sha
open Go.RowKit Go.Lib
theorem i64_xor_nat (a b : Nat) (ha : a < 4294967296) (hb : b < 4294967296) : bits .xor .i64 (a : Int) (b : Int) = ((a ^^^ b : Nat) : Int) := by
  have hx : a ^^^ b < 2 ^ 32 := Nat.xor_lt_two_pow (by omega) (by omega);show IntKind.i64.wrap ((BitVec.ofInt 64 (a : Int) ^^^ BitVec.ofInt 64 (b : Int)).toNat : Int) = _;rw [BitVec.toNat_xor, ofInt_u64 a (by omega), ofInt_u64 b (by omega), IntKind.wrap_i64];omega
theorem i64_and_nat (a b : Nat) (ha : a < 4294967296) (hb : b < 4294967296) : bits .and .i64 (a : Int) (b : Int) = ((a &&& b : Nat) : Int) := by
  have hx : a &&& b < 2 ^ 32 := Nat.and_lt_two_pow _ (by omega);show IntKind.i64.wrap ((BitVec.ofInt 64 (a : Int) &&& BitVec.ofInt 64 (b : Int)).toNat : Int) = _;rw [BitVec.toNat_and, ofInt_u64 a (by omega), ofInt_u64 b (by omega), IntKind.wrap_i64];omega
theorem rotr_parts (x n : Nat) (hn : n ≤ 32) (_hx : x < 4294967296) : rotr x n = x / 2 ^ n + x % 2 ^ n * (4294967296 / 2 ^ n) := by
  unfold rotr
  have : 4294967296 / 2 ^ n = 2 ^ (32 - n) := by
    rw [show (4294967296 : Nat) = 2 ^ n * 2 ^ (32 - n) by rw [← Nat.pow_add, show n + (32 - n) = 32 by omega], Nat.mul_div_cancel_left _ (Nat.two_pow_pos _)]
  rw [this]
set_option maxRecDepth 100000 in
set_option maxHeartbeats 400000 in
theorem turn_any (x n : Nat) (w : World) (hx : x < 4294967296) (hn : n ≤ 31) :
    Calls Tryd.prog 54 #[.int .i64 (x : Int), .int .i64 (n : Int)] w fun e w' => e = .returned (.int .i64 ((rotr x n : Nat) : Int)) ∧ ∃ q, w' = w.drewN q := by
  go_enter Tryd.func54, Tryd.ntmps54
  go_wp2
  go_loop [5, 6] (fun p i => ∃ k P : Nat, k ≤ n ∧ i = .int .i64 k ∧ p = .int .i64 P ∧ P ≤ 4294967296 ∧ Hid (P = 2 ^ k)) (fun _ i => n - (intOf i).toNat)
  case atStart => exact ⟨0, 1, by omega, rfl, rfl, by omega, Lib.hid rfl⟩
  case round =>
    obtain ⟨k, P, hk, rfl, rfl, hP, HP⟩ := hrel
    by_cases hlt : k < n
    · have HB : Hid (2 * P ≤ 4294967296) := Lib.hid (by
        rw [HP.out, ← Nat.pow_succ'];have : 2 ^ (k + 1) ≤ 2 ^ 32 := Nat.pow_le_pow_right (by omega) (by omega)
        simpa using this)
      go_wp2
      go_round
      case rel => exact ⟨k + 1, 2 * P, by omega, by go_num, by go_num, HB.out, Lib.hid (by rw [HP.out, Nat.pow_succ'])⟩
      case measure => simp [intOf]; omega
    · have hkn : k = n := by omega
      subst hkn;have hP0 : 0 < P := by rw [HP.out]; exact Nat.two_pow_pos _
      obtain ⟨a, ha⟩ : ∃ a, x / P = a := ⟨_, rfl⟩;obtain ⟨b, hb⟩ : ∃ b, x % P = b := ⟨_, rfl⟩;obtain ⟨c, hc⟩ : ∃ c, 4294967296 / P = c := ⟨_, rfl⟩;obtain ⟨m, hm⟩ : ∃ m, b * c = m := ⟨_, rfl⟩;have HRot : Hid (rotr x k = a + m) := Lib.hid (by rw [rotr_parts x k (by omega) hx, ← HP.out, ha, hb, hc, hm]);have hrl : a + m < 4294967296 := by rw [← HRot.out]; exact rotr_lt x k (by omega) hx
      have ai : (x : Int) / (P : Int) = (a : Int) := by rw [← Int.natCast_ediv, ha]
      have bi : (x : Int) % (P : Int) = (b : Int) := by rw [← Int.natCast_emod, hb]
      have ci : (4294967296 : Int) / (P : Int) = (c : Int) := by rw [← hc, Int.natCast_ediv]; rfl
      have at_ : (x : Int).tdiv (P : Int) = (a : Int) := by rw [Int.tdiv_eq_ediv_of_nonneg (by omega)]; exact ai
      have bt_ : (x : Int).tmod (P : Int) = (b : Int) := by rw [Int.tmod_eq_emod_of_nonneg (by omega)]; exact bi
      have ct_ : (4294967296 : Int).tdiv (P : Int) = (c : Int) := by rw [Int.tdiv_eq_ediv_of_nonneg (by omega)]; exact ci
      have mi : (b : Int) * (c : Int) = (m : Int) := by rw [← hm, Int.natCast_mul]
      have hPz : ¬ (P : Int) = 0 := by omega
      have hPb : ((P : Int) == 0) = false := beq_eq_false_iff_ne.2 hPz;have hcb : c ≤ 4294967296 := by rw [← hc]; exact Nat.div_le_self _ _
      have w1 : IntKind.i64.wrap (a : Int) = (a : Int) := IntWalk.i64_in _ (by omega);have hbx : b ≤ x := by rw [← hb]; exact Nat.mod_le _ _
      have w2 : IntKind.i64.wrap (b : Int) = (b : Int) := IntWalk.i64_in _ (by omega);have w3 : IntKind.i64.wrap (c : Int) = (c : Int) := IntWalk.i64_in _ (by omega);have w4 : IntKind.i64.wrap (m : Int) = (m : Int) := IntWalk.i64_in _ (by omega);have w5 : IntKind.i64.wrap ((a : Int) + (m : Int)) = (a : Int) + (m : Int) := IntWalk.i64_in _ (by omega);clear ha hb hc hm
      go_wp2
      go_quiet (fail)
      go_wp2
      go_ret
      exact ⟨retI (by rw [HRot.out, Int.natCast_add]), nq, rfl⟩
theorem turn_int (x : Nat) (i : Int) (w : World) (hx : x < 4294967296) (h0 : 0 ≤ i) (h1 : i < 32) :
    Calls Tryd.prog 54 #[.int .i64 (x : Int), .int .i64 i] w fun e w' => e = .returned (.int .i64 ((rotr x i.toNat : Nat) : Int)) ∧ ∃ q, w' = w.drewN q := by
  obtain ⟨s, rfl⟩ := Int.eq_ofNat_of_zero_le h0;rw [Int.toNat_natCast];exact turn_any x s w hx (by omega)
set_option maxRecDepth 100000 in
set_option maxHeartbeats 400000 in
theorem half_any (x n y : Nat) (w : World) (hx : x < 4294967296) (hn : n ≤ 31) (hy : x / 2 ^ n = y) :
    Calls Tryd.prog 55 #[.int .i64 (x : Int), .int .i64 (n : Int)] w fun e w' => e = .returned (.int .i64 (y : Int)) ∧ w = w' := by
  have HY := Lib.hid hy;clear hy
  go_enter Tryd.func55, Tryd.ntmps55
  go_wp2
  go_loop [0, 5] (fun y i => ∃ k q : Nat, k ≤ n ∧ i = .int .i64 k ∧ y = .int .i64 q ∧ q < 4294967296 ∧ Hid (q = x / 2 ^ k)) (fun _ i => n - (intOf i).toNat)
  case atStart => exact ⟨0, x, by omega, rfl, rfl, hx, Lib.hid (by simp)⟩
  case round =>
    obtain ⟨k, q, hk, rfl, rfl, hq, HQ⟩ := hrel
    by_cases hlt : k < n
    · go_wp2
      go_round
      case rel => exact ⟨k + 1, q / 2, by omega, by go_num, by go_num, by omega, Lib.hid (by rw [HQ.out, Nat.pow_succ, Nat.div_div_eq_div_mul])⟩
      case measure => simp [intOf]; omega
    · have hkn : k = n := by omega
      subst hkn
      go_wp2
      go_ret
      exact ⟨retI (by rw [HQ.out, HY.out]), rfl⟩
theorem half3 (x y : Nat) (w : World) (hx : x < 4294967296) (hy : x / 8 = y) :
    Calls Tryd.prog 55 #[.int .i64 (x : Int), .int .i64 3] w fun e w' => e = .returned (.int .i64 (y : Int)) ∧ w = w' := by
  exact half_any x 3 y w hx (by omega) hy
theorem half10 (x y : Nat) (w : World) (hx : x < 4294967296) (hy : x / 1024 = y) :
    Calls Tryd.prog 55 #[.int .i64 (x : Int), .int .i64 10] w fun e w' => e = .returned (.int .i64 (y : Int)) ∧ w = w' := by
  exact half_any x 10 y w hx (by omega) hy
end Go.Proofs.YtcamanopfhbchaaDoor.Sha
end
section
namespace Go.Proofs.YtcamanopfhbchaaDoor.Sha
def nb (l : List UInt8) : List Nat := l.map UInt8.toNat
theorem wd_nb (l : List UInt8) (i : Nat) : wd (nb l) i = bt l i := by
  unfold wd nb bt;rw [List.getD_eq_getElem?_getD, List.getD_eq_getElem?_getD, List.getElem?_map]
  cases l[i]? with
  | none => rfl
  | some x => rfl
theorem bt_piece (l : List UInt8) (m j : Nat) (h : j < 64) : bt ((l.drop (64 * m)).take 64) j = bt l (64 * m + j) := by
  unfold bt;rw [List.getD_eq_getElem?_getD, List.getD_eq_getElem?_getD, List.getElem?_take_of_lt h, List.getElem?_drop]
theorem wset_eq (l : List Nat) (i x : Nat) (h : i < l.length) : wd (l.set i x) i = x := by
  unfold wd; simp [List.getD_eq_getElem?_getD, h]
theorem wset_ne (l : List Nat) (i j x : Nat) (h : j ≠ i) : wd (l.set i x) j = wd l j := by
  unfold wd; simp only [List.getD_eq_getElem?_getD, List.getElem?_set]; rw [if_neg (by omega)]
theorem spA_length (r : List UInt8) (k : Nat) : (spA r k).length = 64 := by
  induction k with
  | zero => simp [spA]
  | succ k ih => simp [spA, ih]
theorem spB_length (r : List UInt8) (k : Nat) : (spB r k).length = 64 := by
  induction k with
  | zero => simp [spB, spA_length]
  | succ k ih => simp [spB, ih]
theorem spA_at (r : List UInt8) (k i : Nat) (h : i < k) (hk : k ≤ 64) : wd (spA r k) i = be4 r i := by
  induction k with
  | zero => omega
  | succ k ih =>
    rw [spA]
    by_cases e : i = k
    · subst e; rw [wset_eq _ _ _ (by rw [spA_length]; omega)]
    · rw [wset_ne _ _ _ _ e]; exact ih (by omega) (by omega)
theorem spB_stay (r : List UInt8) (k n i : Nat) (h : k ≤ n) (hi : i < 16 + k) : wd (spB r n) i = wd (spB r k) i := by
  induction n with
  | zero => have : k = 0 := by omega
            subst this; rfl
  | succ n ih =>
    by_cases e : k = n + 1
    · subst e; rfl
    · rw [spB, wset_ne _ _ _ _ (by omega)]; exact ih (by omega)
theorem sched_lo (r : List UInt8) (i : Nat) (h : i < 16) : wd (sched r) i = be4 r i := by
  unfold sched;rw [spB_stay r 0 48 i (by omega) (by omega)];exact spA_at r 16 i h (by omega)
theorem sched_hi (r : List UInt8) (i : Nat) (h : 16 ≤ i) (h2 : i < 64) : wd (sched r) i = nextW (sched r) i := by
  have e : ∀ j, j < i → wd (sched r) j = wd (spB r (i - 16)) j := fun j hj => by
    unfold sched; exact spB_stay r (i - 16) 48 j (by omega) (by omega)
  have h1 : wd (sched r) i = wd (spB r (i - 16 + 1)) i := by
    unfold sched; exact spB_stay r (i - 16 + 1) 48 i (by omega) (by omega)
  rw [h1, spB, show 16 + (i - 16) = i by omega, wset_eq _ _ _ (by rw [spB_length]; omega)];unfold nextW;rw [e (i - 2) (by omega), e (i - 7) (by omega), e (i - 15) (by omega), e (i - 16) (by omega)]
theorem take_snoc' (l : List Nat) (i : Nat) (h : i < l.length) : l.take (i + 1) = l.take i ++ [wd l i] := by
  rw [List.take_succ_eq_append_getElem h];unfold wd; rw [List.getD_eq_getElem?_getD, List.getElem?_eq_getElem h]; rfl
theorem wd_take (l : List Nat) (i j : Nat) (h : j < i) : wd (l.take i) j = wd l j := by
  unfold wd; rw [List.getD_eq_getElem?_getD, List.getD_eq_getElem?_getD, List.getElem?_take_of_lt h]
theorem be8_len' (x k : Nat) : (be8 x k).length = k := by
  induction k with
  | zero => rfl
  | succ k ih => simp [be8, ih]
theorem be8_bt (x k i : Nat) (h : i < k) : bt (be8 x k) i = x / 2 ^ (56 - 8 * i) % 256 := by
  induction k with
  | zero => omega
  | succ k ih =>
    rw [be8];unfold bt;rw [List.getD_eq_getElem?_getD]
    by_cases e : i < k
    · rw [List.getElem?_append_left (by rw [be8_len']; exact e)];have := ih e;unfold bt at this;rw [List.getD_eq_getElem?_getD] at this;exact this
    · have : i = k := by omega
      subst this;rw [List.getElem?_append_right (by rw [be8_len']; exact Nat.le_refl _), be8_len', Nat.sub_self];show (byteOf (x / 2 ^ (56 - 8 * i))).toNat = _;unfold byteOf;rw [UInt8.toNat_ofNat']; omega
def tailL (x k : Nat) : List Nat := (nb (be8 x 8)).drop (8 - k)
theorem tailL_len (x k : Nat) (h : k ≤ 8) : (tailL x k).length = k := by simp [tailL, nb, be8_len']; omega
theorem tailL_succ (x k : Nat) (h : k < 8) : tailL x (k + 1) = (x / 256 ^ k % 256) :: tailL x k := by
  unfold tailL;have hl : (nb (be8 x 8)).length = 8 := by simp [nb, be8_len']
  rw [List.drop_eq_getElem_cons (by omega), show 8 - (k + 1) + 1 = 8 - k by omega]
  congr 1
  have h1 : (nb (be8 x 8))[8 - (k + 1)]'(by omega) = wd (nb (be8 x 8)) (8 - (k + 1)) := by
    unfold wd; rw [List.getD_eq_getElem?_getD, List.getElem?_eq_getElem (by omega)]; rfl
  rw [h1, wd_nb, be8_bt _ _ _ (by omega), show 56 - 8 * (8 - (k + 1)) = 8 * k by omega, Nat.pow_mul]
theorem tailL_zero (x : Nat) : tailL x 0 = [] := by
  unfold tailL; rw [List.drop_of_length_le (by simp [nb, be8_len'])]
theorem tailL_all (x : Nat) : tailL x 8 = nb (be8 x 8) := by unfold tailL; simp
end Go.Proofs.YtcamanopfhbchaaDoor.Sha
end
section
namespace Go.Proofs.YtcamanopfhbchaaDoor.Sha
open Go
section
variable {P : Program} {ops : Array Oper} {md : Region.Mode} {w : World}
def sinkFrom (md : Region.Mode) (ops : Array Oper) (m n : Nat) : Bool :=
  (List.range n).all fun i => decide (i < m) || (List.range (n + 1)).any fun j => decide (i < j) && Region.waitsFor md ops j i
theorem waits_from {m n : Nat} {listed : Array Bool} (hs : sinkFrom md ops m n = true) (hc : Region.chainB md ops n = true) (hn : n < ops.size) (inv : HeadInv md ops n listed) :
    ∀ (d i : Nat), n - i = d → m ≤ i → i < n → listed.getD i true = false → ∀ t, n ≤ t → t ∉ Region.ready md ops listed := by
  intro d
  induction d using Nat.strongRecOn with
  | _ d ih =>
    intro i hd hmi hi hun t ht hr;obtain ⟨_, ot, hot, hall⟩ := mem_ready.1 hr;have htlt : t < ops.size := (Array.getElem?_eq_some_iff.1 hot).1;rcases Nat.eq_or_lt_of_le ht with rfl | hgt
    · have h1 := List.all_eq_true.1 hs i (List.mem_range.2 hi);rw [Bool.or_eq_true, decide_eq_true_eq] at h1;obtain ⟨j, hj, hj2⟩ := List.any_eq_true.1 (h1.resolve_left (by omega));rw [Bool.and_eq_true, decide_eq_true_eq] at hj2;obtain ⟨oj, hoj, e, he, hb, hon⟩ := Region.waitsFor_spec hj2.2;have hjle := List.mem_range.1 hj;have hij := hj2.1;rcases Nat.lt_or_ge j n with hjn | hjn
      · cases hl : listed.getD j false with
        | true =>
          have h2 := inv.closed j oj hoj hl e he hb;rw [hon, getD_both hun] at h2;cases h2
        | false => exact ih (n - j) (by omega) j rfl (by omega) hjn (getD_in (by rw [inv.size]; omega) hl) n (Nat.le_refl _) hr
      · obtain rfl : n = j := by omega
        obtain rfl : oj = ot := Option.some.inj (hoj.symm.trans hot);have h2 := hall e he hb;rw [hon, getD_both hun] at h2;cases h2
    · have h1 := List.all_eq_true.1 hc t (List.mem_range.2 htlt);rw [Bool.or_eq_true, decide_eq_true_eq] at h1;obtain ⟨o', ho', e, he, hb, hon⟩ := Region.waitsFor_spec (h1.resolve_left (by omega));obtain rfl : o' = ot := Option.some.inj (ho'.symm.trans hot);have h2 := hall e he hb;rw [hon, getD_both (inv.tail (t - 1) (by omega) (by omega))] at h2;cases h2
theorem first_from {m n i : Nat} {oi : Oper} {v : Value} {L : Array Bool → Act → Prop} (hi : ops[i]? = some oi) (hsel : ∀ (j : Nat) (o : Oper) cs b, ops[j]? = some o → o.op ≠ .select cs b)
    (hs : sinkFrom md ops m n = true) (hc : Region.chainB md ops n = true) (hn : n < ops.size) (hmi : m ≤ i) (hin : i < n)
    (hdone : ∀ listed a, L listed a → ∀ j ∈ Region.ready md ops listed, n ≤ j) :
    ∀ (f : Nat) (listed : Array Bool) (a : Act), HeadInv md ops n listed →
      (∀ j oj, ops[j]? = some oj → j ≠ i → listed.getD j true = false → (∀ e ∈ oj.after, Region.binds md e = true → e.on ≠ i) → oi.apart ops oj = true) →
      i ∈ Region.ready md ops listed → YieldsAt P ops w oi v a →
      wpAnyL P md ops w n L f (listed.setIfInBounds i true) (a.put oi.dst v) → wpAnyL P md ops w n L (f + 1) listed a := by
  intro f
  induction f with
  | zero =>
    intro listed a inv _ hr hy H;have hun := (mem_ready.1 hr).1;refine ⟨fun h => (by rw [h] at hr; cases hr), fun j hj => ?_⟩;have hjn : j < n := Nat.lt_of_not_le fun h => waits_from hs hc hn inv _ i rfl hmi hin hun j h hj;refine ⟨hjn, ?_⟩
    by_cases hji : j = i
    · subst hji; exact hy.stOp hi H
    · have := hdone _ _ H j (ready_mono hj hji);omega
  | succ f ih =>
    intro listed a inv hfree hr hy H;have hun := (mem_ready.1 hr).1;refine ⟨fun h => (by rw [h] at hr; cases hr), fun j hj => ?_⟩;have hjn : j < n := Nat.lt_of_not_le fun h => waits_from hs hc hn inv _ i rfl hmi hin hun j h hj;refine ⟨hjn, ?_⟩
    by_cases hji : j = i
    · subst hji; exact hy.stOp hi H
    · obtain ⟨hjun, oj, hoj, hall⟩ := mem_ready.1 hj
      have hnot : ∀ e ∈ oj.after, Region.binds md e = true → e.on ≠ i := fun e he hb heq => by
        have h1 := hall e he hb;rw [heq, getD_both hun] at h1;cases h1
      have h2 := stOp_put hoj (hfree j oj hoj hji hjun hnot) (fun cs b => hsel i oi cs b hi) (fun cs b => hsel j oj cs b hoj) hy (H.2 j (ready_mono hj hji)).2
      have hfree' : ∀ k ok, ops[k]? = some ok → k ≠ i → (listed.setIfInBounds j true).getD k true = false →
          (∀ e ∈ ok.after, Region.binds md e = true → e.on ≠ i) → oi.apart ops ok = true := fun k ok hk hki hun hno => by
        refine hfree k ok hk hki ?_ hno
        by_cases hjk : j = k
        · subst hjk; exact hjun
        · rw [getD_set_ne true hjk] at hun; exact hun
      refine stOp_mono (fun a' h3 => ih (listed.setIfInBounds j true) a' (inv.set hj hjn) hfree' (ready_mono hr (Ne.symm hji)) h3.1 ?_) h2;rw [Array.setIfInBounds_comm _ _ hji];exact h3.2
theorem lex_from {m n g : Nat} {Lq : Act → Prop} (hsel : Region.noSelect ops = true) (hs : sinkFrom md ops m n = true) (hc : Region.chainB md ops n = true) (hn : n < ops.size) :
    ∀ (l : List Oper) (k : Nat) (listed : Array Bool) (a : Act), m ≤ k → (∀ j, j < l.length → l[j]? = ops[k + j]?) → k + l.length = n → HeadInv md ops n listed →
    Region.lexHead md ops g l.length k listed = true → wpStill P ops w Lq l a →
    wpAnyL P md ops w n (fun listed' a' => Region.seqB md ops g n listed' = true ∧ Lq a') l.length listed a
  | [], k, listed, a, _, _, hk, _, hB, h => by
    obtain rfl : k = n := by simpa using hk
    exact ⟨by simpa [Region.lexHead] using hB, h⟩
  | o :: l, k, listed, a, hmk, hl, hk, inv, hB, h => by
    have h0 : ops[k]? = some o := by simpa using (hl 0 (by simp)).symm
    simp only [List.length_cons, Region.lexHead, Bool.and_eq_true] at hB;obtain ⟨⟨hr, hf⟩, hB'⟩ := hB;rw [List.length_cons] at hk;have hkn : k < n := by omega
    have hr' : k ∈ Region.ready md ops listed := by simpa using hr
    have hst : stOp P ops w k (wpStill P ops w Lq l) a := by unfold stOp; simp only [h0]; exact h
    obtain ⟨v, hy, hK⟩ := yieldsAt_of_stOp h0 hst
    exact first_from h0 (Region.noSelect_spec hsel) hs hc hn hmk hkn (fun listed' a' hL => seqB_ready hL.1) l.length listed a inv (Region.free_spec h0 hf) hr' hy
      (lex_from hsel hs hc hn l (k + 1) _ _ (by omega) (fun j hj => by have := hl (j + 1) (by simp; omega); simpa [Nat.add_assoc, Nat.add_comm 1 j] using this) (by omega) (inv.set hr' hkn) hB' hK)
def pushB (md : Region.Mode) (ops : Array Oper) (n : Nat) : Bool :=
  Region.noSelect ops && decide (1 < n) && decide (n < ops.size) && sinkFrom md ops 1 n && Region.chainB md ops n &&
    Region.free md ops (Array.replicate ops.size false) 0 && (Region.ready md ops (Array.replicate ops.size false)).contains 0 &&
    (match ops[0]? with | some o => o.after.isEmpty && (match o.op with | .move (.tmp _) => true | _ => false) && o.guard.isNone | none => false) &&
    Region.lexHead md ops (ops.size - n) (n - 1) 1 ((Array.replicate ops.size false).setIfInBounds 0 true)
theorem wp_region_push0 {id : Nat} {Q : Exit → Act → World → Prop} {a : Act} {w : World} {o0 : Oper} {l : List Oper} {s : Tmp} (n : Nat) (hm : P.follows .mixedOrders = true) (hB : pushB .any (o0 :: l).toArray n = true) (ho : o0.op = .move (.tmp s)) (hg : o0.guard = none)
    (hQ : ∀ v c b w, Q (.panic c) (b.put o0.dst v) w → Q (.panic c) b w)
    (h : wpStill P (o0 :: l).toArray { w with drawn := w.drawn + 1 } (fun a' => wpList P (o0 :: l).toArray Q (l.drop (n - 1)) a' { w with drawn := w.drawn + 1 }) (l.take (n - 1)) (a.put o0.dst (a.eval (.tmp s)))) : (Code.region id (o0 :: l).toArray true).wp P Q a w := by
  simp only [pushB, Bool.and_eq_true, decide_eq_true_eq] at hB;obtain ⟨⟨⟨⟨⟨⟨⟨⟨hsel, hn1⟩, hn⟩, hs⟩, hc⟩, hfree⟩, hready⟩, hfirst⟩, hlex⟩ := hB;have h0 : (o0 :: l).toArray[0]? = some o0 := by simp
  have hsz : (o0 :: l).toArray.size = l.length + 1 := by simp
  rw [h0] at hfirst;simp only [Bool.and_eq_true] at hfirst;have haft : o0.after = #[] := by simpa using hfirst.1.1
  have hn' : n < l.length + 1 := by rw [← hsz]; exact hn
  have htl : (l.take (n - 1)).length = n - 1 := by rw [List.length_take]; omega
  have hdl : (l.drop (n - 1)).length = (o0 :: l).toArray.size - n := by rw [List.length_drop, hsz]; omega
  have inv : HeadInv .any (o0 :: l).toArray n ((Array.replicate (o0 :: l).toArray.size false).setIfInBounds 0 true) := by
    refine ⟨by simp, fun j oj hj hlj e he hb => ?_, fun t ht ht' => ?_⟩
    · by_cases hj0 : 0 = j
      · subst hj0;obtain rfl : oj = o0 := Option.some.inj (hj.symm.trans h0);rw [haft] at he;simp at he
      · rw [getD_set_ne false hj0, getD_replicate_false] at hlj;cases hlj
    · rw [getD_set_ne true (by omega)];exact getD_in (by simpa using ht') (getD_replicate_false _ _)
  have H := lex_from (md := .any) (g := (o0 :: l).toArray.size - n) hsel hs hc hn (l.take (n - 1)) 1 _ (a.put o0.dst (a.eval (.tmp s))) (Nat.le_refl _) (fun j hj => by
    rw [htl] at hj
    rw [List.getElem?_take_of_lt hj, Nat.add_comm 1 j]; simp) (by rw [htl]; omega) inv (by rw [htl]; exact hlex) h
  have H2 := wpAny_of_head (Q' := Q) (g := (o0 :: l).toArray.size - n) (fun listed a' hL => by
    have := wpAny_of_seq (md := .any) (Q' := Q) (l.drop (n - 1)) n listed a' { w with drawn := w.drawn + 1 } (fun j => by
      rw [List.getElem?_drop, show n + j = (n - 1 + j) + 1 by omega]; simp) (by rw [hdl]; exact hL.1) hL.2
    rwa [hdl] at this) _ _ _ H
  refine wp_region_any hm ?_;have hy : Yields P (o0 :: l).toArray o0 (a.eval (.tmp s)) a := .inl ⟨by simp [Region.wanted, hg], fun w' => by unfold execOp; simp [ho]⟩;have H3 := wpAny_take (md := .any) (Q := Q) h0 hsel hfree hready (hQ _) hy H2;rw [htl, show n - 1 + ((o0 :: l).toArray.size - n) + 1 = (o0 :: l).toArray.size by rw [hsz]; omega] at H3;exact H3
theorem wp_region_push {id : Nat} {Q : Exit → Act → World → Prop} {a : Act} {w : World} {o0 : Oper} {l : List Oper} {s : Tmp} (k : Nat) (hm : P.follows .mixedOrders = true) (hB : pushB .any (o0 :: l).toArray (k + 1) = true) (ho : o0.op = .move (.tmp s)) (hg : o0.guard = none)
    (hQ : ∀ v c b w, Q (.panic c) (b.put o0.dst v) w → Q (.panic c) b w)
    (h : wpStill P (o0 :: l).toArray { w with drawn := w.drawn + 1 } (fun a' => wpList P (o0 :: l).toArray Q (l.drop k) a' { w with drawn := w.drawn + 1 }) (l.take k) (a.put o0.dst (a.eval (.tmp s)))) : (Code.region id (o0 :: l).toArray true).wp P Q a w :=
  wp_region_push0 (k + 1) hm hB ho hg hQ h
end
end Go.Proofs.YtcamanopfhbchaaDoor.Sha
end
section
namespace Go.Proofs.YtcamanopfhbchaaDoor.Sha
open Go.RowKit Go.Lib
attribute [local go_sem ↓] Go.wp_at_zero Go.wp_at_succ
def RN (w : World) (g : Nat) (l : List Nat) : Prop := g < w.heap.size ∧ ∀ k, k < l.length → w.cell? ⟨g, k, none⟩ = some (.int .i64 ((wd l k : Nat) : Int))
def OwnI (w : World) (B g cap : Nat) (l : List Nat) : Prop := w.ownsRow B 3 1 (.slice (some ⟨g, 0, none⟩) l.length cap) l.length (l.map iV)
theorem OwnI.rn {w : World} {B g cap : Nat} {l : List Nat} (h : OwnI w B g cap l) : RN w g l :=
  ⟨(h.lt g rfl).2, fun k hk => by rw [h.cellAt k (by omega), List.getElem?_map, List.getElem?_eq_getElem hk, wd_in l k hk]; rfl⟩
theorem OwnI.ge {w : World} {B g cap : Nat} {l : List Nat} (h : OwnI w B g cap l) : B ≤ g := (h.lt g rfl).1
theorem RN.grown {w w' : World} {g : Nat} {l : List Nat} {row : Option Nat} (h : RN w g l) (hg : w.grownBy w' row) (hne : some g ≠ row) : RN w' g l :=
  ⟨by have := hg.size; have := h.1; omega, fun k hk => (World.cell?_of_block (w := w) (hg.block g h.1 hne)).trans (h.2 k hk)⟩
theorem RN.alloc {w : World} {g : Nat} {l : List Nat} (h : RN w g l) (o : Obj) : RN (w.alloc o) g l :=
  ⟨by have := h.1; simp; omega, fun k hk => (World.cell?_alloc_lt w o ⟨g, k, none⟩ h.1).trans (h.2 k hk)⟩
theorem RN.drewN {w : World} {g : Nat} {l : List Nat} (h : RN w g l) (n : Nat) : RN (w.drewN n) g l := h
theorem RN.drew {w : World} {g : Nat} {l : List Nat} (h : RN w g l) : RN w.drew g l := h
theorem OwnI.grown {w w' : World} {B g cap : Nat} {l : List Nat} {row : Option Nat} (h : OwnI w B g cap l) (hg : w.grownBy w' row) (hne : some g ≠ row) : OwnI w' B g cap l := World.ownsRow.kept h hg (.inr hne)
theorem OwnI.alloc {w : World} {B g cap : Nat} {l : List Nat} (h : OwnI w B g cap l) (o : Obj) : OwnI (w.alloc o) B g cap l := World.ownsRow.alloc h o
theorem OwnI.drewN {w : World} {B g cap : Nat} {l : List Nat} (h : OwnI w B g cap l) (n : Nat) : OwnI (w.drewN n) B g cap l := h
theorem OwnI.new (w : World) (B : Nat) (hB : B ≤ w.heap.size) : OwnI (w.alloc (.cells #[] 3)) B w.heap.size 0 [] := own_lit _ hB (heap_alloc_new _ _)
theorem OwnI.one (w : World) (B x : Nat) (hB : B ≤ w.heap.size) : OwnI (w.alloc (.cells #[.int .i64 (x : Int)] 3)) B w.heap.size 1 [x] :=
  World.ownsRow_lit w #[.int .i64 (x : Int)] 1 hB (by unfold maxLen; omega) rfl
theorem addr_add (b o j : Nat) : (⟨b, o, none⟩ : Addr).add j = ⟨b, o + j, none⟩ := by unfold Addr.add; split <;> simp_all
theorem OwnI.news {w : World} {B g cap : Nat} {l : List Nat} (h : OwnI w B g cap l) : ∀ j u, (l.map iV)[j]? = some u → w.cell? ((⟨g, 0, none⟩ : Addr).add j) = some u := World.ownsRow.cells h (g := g) rfl
theorem NIn.news {w : World} {b o : Nat} {l : List Nat} (h : NIn w (some ⟨b, o, none⟩) l) : ∀ j u, (l.map iV)[j]? = some u → w.cell? ((⟨b, o, none⟩ : Addr).add j) = some u := fun j u hu => by
  have hj : j < l.length := by have := (List.getElem?_eq_some_iff.1 hu).1; simpa using this
  obtain ⟨b', o', e, _, hc⟩ := h j hj;cases e;rw [addr_add, hc, ← hu, List.getElem?_map, List.getElem?_eq_getElem hj];show some (iV (wd l j)) = some (iV l[j]);rw [wd_in l j hj]
theorem ints_one (l : List Nat) : ∀ u ∈ l.map iV, u.oneCell' = true := fun u hu => by obtain ⟨x, _, rfl⟩ := List.mem_map.1 hu; rfl
theorem RN.cut {w : World} {g : Nat} {l m : List Nat} (h : RN w g (l ++ m)) : RN w g l := ⟨h.1, fun k hk => by
  rw [h.2 k (by rw [List.length_append]; omega), wd_in (l ++ m) k (by rw [List.length_append]; omega), wd_in l k hk, List.getElem_append_left hk]⟩
theorem run_push (w : World) (ty : TypeId) (B g cap F x : Nat) (l : List Nat) (fr : Nat × Nat) (hO : OwnI w B g cap l) (hF : w.heap[F]? = some (.cells #[.int .i64 (x : Int)] 3 fr)) (hB : B ≤ w.heap.size) (hl : l.length ≤ 1000000) :
    ∃ g' cap' w', (Builtin.append_ #[25, 25] ty #[.slice (some ⟨g, 0, none⟩) l.length cap, .slice (some ⟨F, 0, none⟩) 1 1]).run Tryd.prog w = .ok (.slice (some ⟨g', 0, none⟩) (l.length + 1) cap') w' ∧ OwnI w' B g' cap' (l ++ [x]) ∧ w.grownBy w' (some g) ∧ (g' = g ∨ g' = w.heap.size) ∧ RN w' g l := by
  obtain ⟨i0, hi, hz0, hz1, hz2⟩ := info_parts infoI;have hnews : ∀ j u, ([Value.int .i64 (x : Int)] : List Value)[j]? = some u → w.cell? ((⟨F, 0, none⟩ : Addr).add j) = some u := World.news_of_block (cs := #[.int .i64 (x : Int)]) hF;have h1 : ∀ u ∈ ([Value.int .i64 (x : Int)] : List Value), u.oneCell' = true := by simp [Value.oneCell']
  obtain ⟨g', cap', w', hrun, hown, hgrow, hat, hlt⟩ := run_append_lies (P := Tryd.prog) w 25 ty B 3 i0 (.int .i64 0) 1 8 Tryd.underlying25 hi hz0 hz1 hz2 rfl (by decide) (.slice (some ⟨g, 0, none⟩) l.length cap) l.length (l.map iV) hO ⟨F, 0, none⟩ 1 1 [.int .i64 (x : Int)] rfl hnews h1 (by omega) (by unfold maxLen; omega) (by omega) hB w.heap.size rfl
  have hO2 : OwnI w' B g' cap' (l ++ [x]) := by
    unfold OwnI; rw [List.length_append, List.map_append]; exact hown
  refine ⟨g', cap', w', hrun, hO2, hgrow, ?_, ?_⟩
  · rcases hat with h | h
    · exact .inl (by simpa [Value.ownBlock] using h.symm)
    · exact .inr h
  · rcases hO.2 with ⟨h', _⟩ | ⟨gg, cc, cur, h', hbg, hg, hnc, hcm, hcs, htake⟩
    · simp at h'
    · simp only [Value.slice.injEq, Option.some.injEq, Addr.mk.injEq, and_true, true_and] at h';obtain ⟨rfl, rfl⟩ := h'
      by_cases hroom : l.length + 1 ≤ cap
      · have hr := run_append_room (P := Tryd.prog) w 25 ty 3 i0 Tryd.underlying25 hi g l.length cap cur hg ⟨F, 0, none⟩ 1 1 [.int .i64 (x : Int)] (by rw [hz1]; rfl) hnews h1 hroom (by rw [hz1]; simp at hcs ⊢; omega);rw [hrun] at hr;injection hr with hv hw
        injection hv with hv
        injection hv with hv
        injection hv with hv
        subst hv;exact hO2.rn.cut
      · have hr := run_append_grow (P := Tryd.prog) w 25 ty 3 i0 (.int .i64 0) Tryd.underlying25 hi hz0 ⟨g, 0, none⟩ l.length cap (l.map iV) (by rw [hz1]; simp) hO.news ⟨F, 0, none⟩ 1 1 [.int .i64 (x : Int)] (by rw [hz1]; rfl) hnews (by omega) (by omega) (growslice_fits (by omega) (by rw [hz2]; omega));rw [hrun] at hr;injection hr with hv hw
        rw [hw];exact (RN.drew hO.rn).alloc _
end Go.Proofs.YtcamanopfhbchaaDoor.Sha
end
section
namespace Go.Proofs.YtcamanopfhbchaaDoor.Sha
open Go.RowKit Go.Lib
theorem next_eq (W : List Nat) (a : Nat) : nextW W (a + 16) = (wd W a + sg0 (wd W (a + 1)) + wd W (a + 9) + sg1 (wd W (a + 14))) % 4294967296 := by
  have h : nextW W (a + 16) = (sg1 (wd W (a + 14)) + wd W (a + 9) + sg0 (wd W (a + 1)) + wd W a) % 4294967296 := rfl;rw [h]
  congr 1
  omega
end Go.Proofs.YtcamanopfhbchaaDoor.Sha
end
section
namespace Go.Proofs.YtcamanopfhbchaaDoor.Kn
open Go
def find : List (Nat × Value) → Nat → Option Value
  | [], _ => none
  | (k, v) :: l, t => bif Nat.beq k t then some v else find l t
def nth : List Value → Nat → Option Value
  | [], _ => none
  | v :: l, t => match t with
    | 0 => some v
    | t + 1 => nth l t
theorem nth_eq : ∀ (l : List Value) (t : Nat), nth l t = l[t]?
  | [], t => by simp [nth]
  | v :: l, 0 => by simp [nth]
  | v :: l, t + 1 => by simp [nth, nth_eq l t]
structure Kn (n : Nat) (l : List (Nat × Value)) (a : Act) : Prop where
  defers : a.defers = []
  size : a.tmps.size = n
  get : ∀ t v, find l t = some v → a.eval (.tmp t) = v
inductive Val (l : List (Nat × Value)) : Operand → Value → Prop
  | tmp {t : Tmp} {v : Value} (h : find l t = some v) : Val l (.tmp t) v
  | const {v : Value} : Val l (.const v) v
  | global {g : Nat} : Val l (.global g) (.pointer (some ⟨g, 0, none⟩))
  | func {f : FuncId} : Val l (.func f) (.func (.func f) #[] #[])
inductive Vals (l : List (Nat × Value)) : List Operand → List Value → Prop
  | nil : Vals l [] []
  | cons {x : Operand} {v : Value} {xs : List Operand} {vs : List Value} (h : Val l x v) (t : Vals l xs vs) : Vals l (x :: xs) (v :: vs)
inductive Wants (ops : Array Oper) (l : List (Nat × Value)) : Option (Nat × Bool) → Bool → Prop
  | none : Wants ops l none true
  | some {j : Nat} {b c r : Bool} {d : Tmp} (h : (ops[j]?).bind (·.dst) = some d) (hv : find l d = some (.bool c)) (hr : (c == b) = r) : Wants ops l (some (j, b)) r
  | gone {j : Nat} {b : Bool} {d : Tmp} (h : (ops[j]?).bind (·.dst) = some d) (hv : find l d = some undef) : Wants ops l (some (j, b)) false
theorem beq_no {i j : Nat} (h : i ≠ j) : Nat.beq i j = false := by
  cases e : Nat.beq i j with
  | true => exact absurd (Nat.eq_of_beq_eq_true e) h
  | false => rfl
section
variable {P : Program} {n : Nat} {l : List (Nat × Value)} {a : Act} {ops : Array Oper} {Q : Exit → Act → World → Prop} {w : World} {rest : List Oper}
theorem Kn.val (h : Kn n l a) {x : Operand} {v : Value} (hv : Val l x v) : a.eval x = v := by
  cases hv with
  | tmp ht => exact h.get _ _ ht
  | const => rfl
  | global => rfl
  | func => rfl
theorem Kn.vals (h : Kn n l a) {xs : List Operand} {vs : List Value} (hv : Vals l xs vs) : xs.toArray.map a.eval = vs.toArray := by
  have : xs.map a.eval = vs := by
    induction hv with
    | nil => rfl
    | cons h1 _ ih => rw [List.map_cons, h.val h1, ih]
  rw [List.map_toArray, this]
theorem Kn.put (h : Kn n l a) {d : Tmp} (hd : Nat.blt d n = true) (v : Value) : Kn n ((d, v) :: l) (a.put (some d) v) := by
  have hd' : d < a.tmps.size := by rw [h.size]; exact Nat.le_of_ble_eq_true hd
  refine ⟨h.defers, by simp [Act.put, h.size], fun t u hu => ?_⟩
  by_cases e : d = t
  · subst e;rw [find, Nat.beq_refl] at hu;simp at hu;subst hu;simp [Act.put, Act.eval, hd']
  · rw [find, beq_no e] at hu;have := h.get t u (by simpa using hu);rw [← this];simp only [Act.put, Act.eval];rw [Array.getD_eq_getD_getElem?, Array.getD_eq_getD_getElem?, Array.getElem?_setIfInBounds_ne e]
theorem Kn.wants (h : Kn n l a) {o : Oper} {r : Bool} (hw : Wants ops l o.guard r) : Region.wanted o (yielded ops a.tmps) = r := by
  unfold Region.wanted;generalize o.guard = g at hw
  cases hw with
  | none => rfl
  | @some j b c r d hj hv hr =>
    have h1 := h.get _ _ hv
    have h2 : a.tmps[d]? = some (.bool c) := by
      simp only [Act.eval] at h1;rw [Array.getD_eq_getD_getElem?] at h1
      cases e : a.tmps[d]? with
      | none => rw [e] at h1; simp [undef] at h1
      | some u => rw [e] at h1; simp at h1; rw [h1]
    simp only [yielded, hj, Option.bind_some, h2];rw [← hr];cases c <;> cases b <;> rfl
  | @gone j b d hj hv =>
    have h1 := h.get _ _ hv
    have h2 : ∀ c, a.tmps[d]? ≠ some (.bool c) := fun c e => by
      simp only [Act.eval] at h1;rw [Array.getD_eq_getD_getElem?, e] at h1;simp [undef] at h1
    simp only [yielded, hj, Option.bind_some]
    cases e : a.tmps[d]? with
    | none => rfl
    | some u => cases u <;> first | rfl | exact absurd e (h2 _)
theorem Kn.more (h : Kn n l a) {t : Tmp} {v : Value} (hv : a.eval (.tmp t) = v) : Kn n ((t, v) :: l) a := by
  refine ⟨h.defers, h.size, fun s u hu => ?_⟩;rw [find] at hu
  by_cases e : t = s
  · subst e;rw [Nat.beq_refl] at hu;simp at hu;rw [hv, hu]
  · rw [beq_no e] at hu;exact h.get _ _ (by simpa using hu)
theorem Kn.nil (hd : a.defers = []) (hs : a.tmps.size = n) : Kn n [] a := ⟨hd, hs, fun t v h => by simp [find] at h⟩
def Sat (K : Value → World → Prop) : Result Value → Prop
  | .ok v w => K v w
  | .halt _ _ => False
@[go_sem] theorem sat_ok (K : Value → World → Prop) (v : Value) (w : World) : Sat K (.ok v w) = K v w := rfl
def SatU (K : World → Prop) : Result Unit → Prop
  | .ok _ w => K w
  | .halt _ _ => False
@[go_sem] theorem satU_ok (K : World → Prop) (v : Unit) (w : World) : SatU K (.ok v w) = K w := rfl
abbrev vl (s : Sem Value) : Sem Next := do pure (.value (← s))
abbrev ul (s : Sem Unit) : Sem Next := do s; pure .skip
section exec
variable {d : Option Tmp} {t : TypeId} {p : String} {af : Array Edge} {g : Option (Nat × Bool)} {x y z : Operand} {vx vy vz : Value}
theorem ex_move (h : Kn n l a) (hx : Val l x vx) : execOp a.eval ⟨d, .move x, t, p, af, g⟩ = vl (pure vx) := by simp only [execOp, h.val hx]; rfl
theorem ex_assign (h : Kn n l a) (hx : Val l x vx) : execOp a.eval ⟨d, .assign x, t, p, af, g⟩ = vl (pure vx) := by simp only [execOp, h.val hx]; rfl
theorem ex_pick {c : Operand} {b : Bool} {v : Value} (h : Kn n l a) (hc : Val l c (.bool b)) (hv : Val l (if b then x else y) v) : execOp a.eval ⟨d, .pick c x y, t, p, af, g⟩ = vl (pure v) := by
  have e : (if b then a.eval x else a.eval y) = v := by rw [← h.val hv]; cases b <;> rfl
  simp only [execOp, h.val hc]; rw [← e]; rfl
theorem ex_extract {i : Nat} {vs : Array Value} {v : Value} (h : Kn n l a) (hx : Val l x (.tuple vs)) (hi : vs[i]? = some v) : execOp a.eval ⟨d, .extract x i, t, p, af, g⟩ = vl (pure v) := by
  simp only [execOp, h.val hx, Instr.extract, hi]
theorem ex_bin {op : BinOp} {tx ty : TypeId} (h : Kn n l a) (hx : Val l x vx) (hy : Val l y vy) : execOp a.eval ⟨d, .binOp op tx x y ty, t, p, af, g⟩ = vl (do eqGuard op tx x y vx vy; binOp op tx vx vy) := by simp only [execOp, h.val hx, h.val hy]
theorem ex_un {op : UnOp} {tx : TypeId} (h : Kn n l a) (hx : Val l x vx) : execOp a.eval ⟨d, .unOp op tx x, t, p, af, g⟩ = vl (Op.unary op vx) := by simp only [execOp, h.val hx]
theorem ex_convert {ts td : TypeId} (h : Kn n l a) (hx : Val l x vx) : execOp a.eval ⟨d, .convert ts td x, t, p, af, g⟩ = vl (convert ts td vx) := by simp only [execOp, h.val hx]
theorem ex_alloc {e : TypeId} : execOp a.eval ⟨d, .alloc e, t, p, af, g⟩ = vl (Instr.alloc e true (.tuple #[])) := rfl
theorem ex_box {e : TypeId} (h : Kn n l a) (hx : Val l x vx) : execOp a.eval ⟨d, .box e x, t, p, af, g⟩ = vl (Instr.box e vx) := by simp only [execOp, h.val hx]
theorem ex_load {e : TypeId} (h : Kn n l a) (hx : Val l x vx) : execOp a.eval ⟨d, .load e x, t, p, af, g⟩ = vl (Instr.loadAt e vx) := by simp only [execOp, h.val hx]
theorem ex_store {e : TypeId} (h : Kn n l a) (hx : Val l x vx) (hy : Val l y vy) : execOp a.eval ⟨d, .store e x y, t, p, af, g⟩ = ul (Instr.storeAt e vx vy) := by simp only [execOp, h.val hx, h.val hy]
theorem ex_fieldAddr {e : TypeId} {f : Nat} (h : Kn n l a) (hx : Val l x vx) : execOp a.eval ⟨d, .fieldAddr e x f, t, p, af, g⟩ = vl (Instr.fieldAt e vx f) := by simp only [execOp, h.val hx]
theorem ex_field {e : TypeId} {f : Nat} (h : Kn n l a) (hx : Val l x vx) : execOp a.eval ⟨d, .field e x f, t, p, af, g⟩ = vl (Instr.field e vx f) := by simp only [execOp, h.val hx]
theorem ex_indexAddr {e : TypeId} (h : Kn n l a) (hx : Val l x vx) (hy : Val l y vy) : execOp a.eval ⟨d, .indexAddr e x y, t, p, af, g⟩ = vl (Instr.indexAt e vx vy) := by simp only [execOp, h.val hx, h.val hy]
theorem ex_index {e : TypeId} (h : Kn n l a) (hx : Val l x vx) (hy : Val l y vy) : execOp a.eval ⟨d, .index e x y, t, p, af, g⟩ = vl (Instr.index e vx vy) := by simp only [execOp, h.val hx, h.val hy]
theorem ex_makeInterface {e : TypeId} (h : Kn n l a) (hx : Val l x vx) : execOp a.eval ⟨d, .makeInterface e x, t, p, af, g⟩ = vl (Instr.makeInterface e vx) := by simp only [execOp, h.val hx]
theorem ex_sliceL {e : TypeId} (h : Kn n l a) (hx : Val l x vx) (hy : Val l y vy) : execOp a.eval ⟨d, .slice e x (some y) none none, t, p, af, g⟩ = vl (Instr.sliceAt e vx (some vy) none none) := by simp only [execOp, h.val hx, h.val hy, Option.map]
theorem ex_sliceH {e : TypeId} (h : Kn n l a) (hx : Val l x vx) (hy : Val l y vy) : execOp a.eval ⟨d, .slice e x none (some y) none, t, p, af, g⟩ = vl (Instr.sliceAt e vx none (some vy) none) := by simp only [execOp, h.val hx, h.val hy, Option.map]
theorem ex_buildSlice {e : TypeId} {m : Nat} {ps : Array (Nat × Operand)} {us : List Value} (h : Kn n l a) (hx : Vals l (ps.toList.map (·.2)) us) : execOp a.eval ⟨d, .buildSlice e m ps, t, p, af, g⟩ = vl (Instr.buildSlice e m ((ps.toList.map (·.1)).zip us).toArray) := by
  have e1 : (ps.map fun (i, x) => (i, a.eval x)) = ((ps.toList.map (·.1)).zip us).toArray := by
    have := h.vals hx;rw [List.map_toArray] at this;have h2 : (ps.toList.map (·.2)).map a.eval = us := by simpa using this
    rw [← h2]
    apply Array.ext'
    simp only [Array.toList_map, List.map_map, List.zip_map'];exact List.map_congr_left fun p _ => rfl
  simp only [execOp, e1]
theorem ex_build {e : TypeId} {ps : Array (Nat × Operand)} {us : List Value} (h : Kn n l a) (hx : Vals l (ps.toList.map (·.2)) us) : execOp a.eval ⟨d, .build e ps, t, p, af, g⟩ = vl (Instr.build e ((ps.toList.map (·.1)).zip us).toArray) := by
  have e1 : (ps.map fun (i, x) => (i, a.eval x)) = ((ps.toList.map (·.1)).zip us).toArray := by
    have := h.vals hx;rw [List.map_toArray] at this;have h2 : (ps.toList.map (·.2)).map a.eval = us := by simpa using this
    rw [← h2]
    apply Array.ext'
    simp only [Array.toList_map, List.map_map, List.zip_map'];exact List.map_congr_left fun p _ => rfl
  simp only [execOp, e1]
theorem ex_len {ats : Array TypeId} (h : Kn n l a) (hx : Val l x vx) : execOp a.eval ⟨d, .call { callee := .builtin .len, args := #[x], argTypes := ats }, t, p, af, g⟩ = vl (Builtin.len_ ats t #[vx]) := by
  rw [BigFrame.execOp_builtin, BigFrame.builtin_len]; simp [h.val hx]
theorem ex_append {ats : Array TypeId} {xs : Array Operand} {us : List Value} (h : Kn n l a) (hx : Vals l xs.toList us) : execOp a.eval ⟨d, .call { callee := .builtin .append, args := xs, argTypes := ats }, t, p, af, g⟩ = vl (Builtin.append_ ats t us.toArray) := by
  rw [BigFrame.execOp_builtin, BigFrame.builtin_append, show xs.map a.eval = us.toArray by have := h.vals hx; rwa [Array.toArray_toList] at this]
theorem ex_lookup {e : TypeId} {ok : Bool} (h : Kn n l a) (hx : Val l x vx) (hy : Val l y vy) : execOp a.eval ⟨d, .lookup e x y ok, t, p, af, g⟩ = vl (Instr.lookup e vx vy ok) := by simp only [execOp, h.val hx, h.val hy]
theorem ex_call {f : FuncId} {xs : Array Operand} {us : List Value} {ats : Array TypeId} (h : Kn n l a) (hx : Vals l xs.toList us) : execOp a.eval ⟨d, .call { callee := .value (.func f), args := xs, argTypes := ats }, t, p, af, g⟩ = callFunc f us.toArray := by
  have e : xs.map a.eval = us.toArray := by have := h.vals hx; rwa [Array.toArray_toList] at this
  rw [execOp_call_go, e]; simp
end exec
def Nx (P : Program) (n : Nat) (l : List (Nat × Value)) (ops : Array Oper) (Q : Exit → Act → World → Prop) (rest : List Oper) (d : Tmp) (v : Value) (w : World) : Prop := ∀ a, Kn n ((d, v) :: l) a → wpList P ops Q rest a w
theorem run_value (s : Sem Value) (w : World) (K : Act → World → Prop) (o : Oper) (a : Act) (H : Sat (fun v w' => K (a.put o.dst v) w') (s.run P w)) (he : execOp a.eval o = vl s) : o.wp P a w K Q := by
  unfold Oper.wp;rw [he]
  cases hs : s.run P w with
  | ok v w' =>
    rw [hs] at H;simp [go_sem, hs];exact H
  | halt x w' => rw [hs] at H; exact H.elim
theorem step {o : Oper} {d : Tmp} {s : Sem Value} (h : Kn n l a) (hd : o.dst = some d) (hdn : Nat.blt d n = true) (hw : Wants ops l o.guard true) (he : execOp a.eval o = vl s)
    (H : ∀ K : Value → World → Prop, (∀ v w', Nx P n l ops Q rest d v w' → K v w') → Sat K (s.run P w)) : wpList P ops Q (o :: rest) a w := by
  refine wpList_step fun K hK => ?_;rw [h.wants hw, if_pos rfl];refine run_value s w K o a (H _ fun v w' hn => ?_) he;rw [hd];exact hK _ _ (hn _ (h.put hdn v))
theorem pure {o : Oper} {d : Tmp} {v : Value} (h : Kn n l a) (hd : o.dst = some d) (hdn : Nat.blt d n = true) (hw : Wants ops l o.guard true) (he : execOp a.eval o = vl (.pure v))
    (H : Nx P n l ops Q rest d v w) : wpList P ops Q (o :: rest) a w := step h hd hdn hw he fun _ hK => hK _ _ H
theorem known {o : Oper} {d : Tmp} {s : Sem Value} {v : Value} {w' : World} (h : Kn n l a) (hd : o.dst = some d) (hdn : Nat.blt d n = true) (hw : Wants ops l o.guard true) (he : execOp a.eval o = vl s)
    (hr : s.run P w = .ok v w') (H : Nx P n l ops Q rest d v w') : wpList P ops Q (o :: rest) a w := step h hd hdn hw he fun _ hK => by rw [hr]; exact hK _ _ H
theorem stepU {o : Oper} {s : Sem Unit} (h : Kn n l a) (hd : o.dst = none) (hw : Wants ops l o.guard true) (he : execOp a.eval o = ul s)
    (H : ∀ K : World → Prop, (∀ w', wpList P ops Q rest a w' → K w') → SatU K (s.run P w)) : wpList P ops Q (o :: rest) a w := by
  refine wpList_step fun K hK => ?_;rw [h.wants hw, if_pos rfl];unfold Oper.wp;rw [he];have := H _ fun w' hn => hK a w' hn
  cases hs : s.run P w with
  | ok v w' =>
    rw [hs] at this;simp [go_sem, hs, hd, Act.put];exact this
  | halt x w' => rw [hs] at this; exact this.elim
theorem skip {o : Oper} {d : Tmp} (h : Kn n l a) (hd : o.dst = some d) (hdn : Nat.blt d n = true) (hw : Wants ops l o.guard false) (H : Nx P n l ops Q rest d undef w) : wpList P ops Q (o :: rest) a w := by
  refine wpList_step fun K hK => ?_;rw [h.wants hw, if_neg (by simp), hd];exact hK _ _ (H _ (h.put hdn _))
theorem call {o : Oper} {d : Tmp} {f : FuncId} {args : Array Value} {R : Ending → World → Prop} (h : Kn n l a) (hd : o.dst = some d) (hdn : Nat.blt d n = true) (hw : Wants ops l o.guard true) (he : execOp a.eval o = callFunc f args)
    (hc : ∀ (args : Array Value) (w : World), (callFunc f args).run P w = .ok (.enter f args) w) (hR : Calls P f args w R)
    (H : ∀ e w', R e w' → ∃ v, e = .returned v ∧ Nx P n l ops Q rest d v w') : wpList P ops Q (o :: rest) a w := by
  refine wpList_step fun K hK => ?_;rw [h.wants hw, if_pos rfl];unfold Oper.wp;rw [he, hc];refine hR.mono fun e w' hr => ?_;obtain ⟨v, rfl, hn⟩ := H e w' hr;show K (a.put o.dst v) w';rw [hd];exact hK _ _ (hn _ (h.put hdn v))
def NxS (P : Program) (n : Nat) (l : List (Nat × Value)) (ops : Array Oper) (w : World) (Q : Act → Prop) (rest : List Oper) (d : Tmp) (v : Value) : Prop := ∀ a, Kn n ((d, v) :: l) a → wpStill P ops w Q rest a
theorem sstep {Q : Act → Prop} {o : Oper} {d : Tmp} {s : Sem Value} (h : Kn n l a) (hd : o.dst = some d) (hdn : Nat.blt d n = true) (hw : Wants ops l o.guard true) (he : execOp a.eval o = vl s)
    (H : ∀ K : Value → World → Prop, (∀ v, NxS P n l ops w Q rest d v → K v w) → Sat K (s.run P w)) : wpStill P ops w Q (o :: rest) a := by
  refine wpStill_step fun K hK => ?_;rw [h.wants hw, if_pos rfl];have H1 := H (fun v w' => w' = w ∧ K (a.put o.dst v)) fun v hn => ⟨rfl, by rw [hd]; exact hK _ (hn _ (h.put hdn v))⟩;unfold Oper.still;rw [he]
  cases hs : s.run P w with
  | ok v w' =>
    rw [hs] at H1;simp [go_sem, hs];exact H1
  | halt x w' => rw [hs] at H1; exact H1.elim
theorem spure {Q : Act → Prop} {o : Oper} {d : Tmp} {v : Value} (h : Kn n l a) (hd : o.dst = some d) (hdn : Nat.blt d n = true) (hw : Wants ops l o.guard true) (he : execOp a.eval o = vl (.pure v))
    (H : NxS P n l ops w Q rest d v) : wpStill P ops w Q (o :: rest) a := sstep h hd hdn hw he fun _ hK => hK _ H
theorem sskip {Q : Act → Prop} {o : Oper} {d : Tmp} (h : Kn n l a) (hd : o.dst = some d) (hdn : Nat.blt d n = true) (hw : Wants ops l o.guard false) (H : NxS P n l ops w Q rest d undef) : wpStill P ops w Q (o :: rest) a := by
  refine wpStill_step fun K hK => ?_;rw [h.wants hw, if_neg (by simp), hd];exact hK _ (H _ (h.put hdn _))
theorem still {id : Nat} {ops : List Oper} (hm : P.follows .mixedOrders = true) (hB : Region.lexB .any ops.toArray = true) (h : wpStill P ops.toArray w.drew (fun a' => Q .normal a' w.drew) ops a) : (Code.region id ops.toArray true).wp P Q a w :=
  wp_region_still_lit hm hB h
theorem tail {id : Nat} {ops hd tl : List Oper} (k : Nat) (hm : P.follows .mixedOrders = true) (hB : Region.lexTailB .any ops.toArray k = true) (h1 : ops.take k = hd) (h2 : ops.drop k = tl) (h : wpStill P ops.toArray w.drew (fun a' => wpList P ops.toArray Q tl a' w.drew) hd a) : (Code.region id ops.toArray true).wp P Q a w := by
  subst h1 h2; exact wp_region_still_tail k hm hB h
inductive Sub (l : List (Nat × Value)) : List (Nat × Value) → Prop
  | nil : Sub l []
  | cons {t : Nat} {v : Value} {l' : List (Nat × Value)} (h : find l t = some v) (r : Sub l l') : Sub l ((t, v) :: l')
  | turn {t : Nat} {v u : Value} {l' : List (Nat × Value)} (h : find l t = some v) (e : v = u) (r : Sub l l') : Sub l ((t, u) :: l')
theorem Sub.at {l l' : List (Nat × Value)} (h : Sub l l') {t : Nat} {v : Value} (hv : find l' t = some v) : find l t = some v := by
  induction h with
  | nil => simp [find] at hv
  | @cons s u l' h1 _ ih =>
    rw [find] at hv
    by_cases e : s = t
    · subst e; rw [Nat.beq_refl] at hv; simp at hv; rw [← hv]; exact h1
    · rw [beq_no e] at hv; exact ih (by simpa using hv)
  | @turn s u x l' h1 h2 _ ih =>
    subst h2;rw [find] at hv
    by_cases e : s = t
    · subst e; rw [Nat.beq_refl] at hv; simp at hv; rw [← hv]; exact h1
    · rw [beq_no e] at hv; exact ih (by simpa using hv)
theorem Kn.cut {l' : List (Nat × Value)} (h : Kn n l a) (hs : Sub l l') : Kn n l' a := ⟨h.defers, h.size, fun _ _ hv => h.get _ _ (hs.at hv)⟩
inductive Ins (args : Array Value) : List (Nat × Value) → Prop
  | nil : Ins args []
  | cons {t : Nat} {v : Value} {l' : List (Nat × Value)} (h : nth args.toList t = some v) (r : Ins args l') : Ins args ((t, v) :: l')
theorem Ins.at {args : Array Value} {l : List (Nat × Value)} (h : Ins args l) {t : Nat} {v : Value} (hv : find l t = some v) : args[t]? = some v := by
  induction h with
  | nil => simp [find] at hv
  | @cons s u l' h1 _ ih =>
    rw [find] at hv
    by_cases e : s = t
    · subst e; rw [Nat.beq_refl] at hv; simp at hv; rw [← hv]; rw [nth_eq] at h1; simpa using h1
    · rw [beq_no e] at hv; exact ih (by simpa using hv)
theorem calls {f : FuncId} {fn : Func} {c : Code} {args : Array Value} {R : Ending → World → Prop} (hf : P.funcs[f]? = some fn) (hb : fn.body = some c) (hn : fn.ntmps = n) (ha : Nat.ble args.size n = true) (hl : Ins args l)
    (H : ∀ a, Kn n l a → c.wp P (bodyPost P fn R) a w) : Calls P f args w R := by
  refine calls_of_wp hf hb (H _ ⟨rfl, ?_, fun t v hv => ?_⟩)
  · have := Nat.le_of_ble_eq_true ha;simp only [Array.size_append, Array.size_replicate]; omega
  · have h1 := hl.at hv
    have h2 : t < args.size := by
      rcases Nat.lt_or_ge t args.size with h | h
      · exact h
      · rw [Array.getElem?_eq_none h] at h1; cases h1
    simp only [Act.eval];rw [Array.getD_eq_getD_getElem?, Array.getElem?_append_left h2, h1]
    rfl
theorem ret1 {fn : Func} {R : Ending → World → Prop} {t : Tmp} {v : Value} (h : Kn n l a) (hr : fn.results = #[.tmp t]) (hv : find l t = some v) (H : R (.returned v) w) : bodyPost P fn R .ret a w :=
  bodyPost_ret (results_tmp hr _ _ _) h.defers (by have := h.get t v hv; simp only [Act.eval] at this; rw [this]; exact H)
theorem ret2 {fn : Func} {R : Ending → World → Prop} {t u : Tmp} {v x : Value} (h : Kn n l a) (hr : fn.results = #[.tmp t, .tmp u]) (hv : find l t = some v) (hx : find l u = some x) (H : R (.returned (.tuple #[v, x])) w) : bodyPost P fn R .ret a w :=
  bodyPost_ret (results_tmp2 hr _ _ _) h.defers (by have h1 := h.get t v hv; have h2 := h.get u x hx; simp only [Act.eval] at h1 h2; rw [h1, h2]; exact H)
theorem yes {x : Operand} {c d : Code} (h : Kn n l a) (hv : Val l x (.bool true)) (H : c.wp P Q a w) : (Code.cond x c d).wp P Q a w := wp_cond_true (h.val hv) H
theorem no {x : Operand} {c d : Code} (h : Kn n l a) (hv : Val l x (.bool false)) (H : d.wp P Q a w) : (Code.cond x c d).wp P Q a w := wp_cond_false (h.val hv) H
theorem then_ret {K : Act → World → Prop} (h : Q .ret a w) : Exit.then K Q .ret a w := h
theorem then_exit {K : Act → World → Prop} {i : Nat} (h : Q (.exit i) a w) : Exit.then K Q (.exit i) a w := h
theorem block_ret {i : Nat} (h : Q .ret a w) : Exit.inBlock i Q .ret a w := h
theorem block_normal {i : Nat} (h : Q .normal a w) : Exit.inBlock i Q .normal a w := h
theorem block_exit {i : Nat} (h : Q .normal a w) : Exit.inBlock i Q (.exit i) a w := by simp only [Exit.inBlock, if_pos]; exact h
theorem loop {c : Code} (I : Nat → Act → World → Prop) (m : Nat) (h0 : I m a w) (hr : ∀ m a w, I m a w → ∀ K : Act → World → Prop, (∀ m' a' w', m' < m → I m' a' w' → K a' w') → c.wp P (Exit.then K Q) a w) : (Code.loop c).wp P Q a w :=
  wp_loop_ghost I m h0 fun m a w h => hr m a w h _ fun m' _ _ hlt h' => ⟨m', hlt, h'⟩
def PI (Q : Exit → Act → World → Prop) : Prop := ∀ (d : Option Tmp) (v : Value) (c : List PanicEntry) (b : Act) (w : World), Q (.panic c) (b.put d v) w → Q (.panic c) b w
theorem PI.then {K : Act → World → Prop} (h : PI Q) : PI (Exit.then K Q) := h
theorem PI.block {i : Nat} (h : PI Q) : PI (Exit.inBlock i Q) := h
theorem PI.body {fn : Func} {R : Ending → World → Prop} : PI (bodyPost P fn R) := fun d v c b w h => by cases d <;> exact h
def JQ (R : Act → World → Prop) : Exit → Act → World → Prop
  | .normal, a, w => R a w
  | _, _, _ => False
theorem PI.join {R : Act → World → Prop} : PI (JQ R) := fun _ _ _ _ _ h => h
theorem join {c : Code} (R : Act → World → Prop) (h : c.wp P (JQ R) a w) (hQ : ∀ a w, R a w → Q .normal a w) : c.wp P Q a w :=
  wp_mono h fun e a w hq => by
    cases e with
    | normal => exact hQ a w hq
    | _ => exact hq.elim
theorem gen {c : Code} (S : World → Prop) (hS : S w) (H : ∀ u, S u → c.wp P Q a u) : c.wp P Q a w := H w hS
end
end Go.Proofs.YtcamanopfhbchaaDoor.Kn
end
section
namespace Go.Proofs.YtcamanopfhbchaaDoor.Kn
open Go
def backB (md : Region.Mode) (ops : Array Oper) : Bool :=
  (List.range ops.size).all fun i => match ops[i]? with
    | some o => o.after.all fun e => !Region.binds md e || Nat.blt e.on i
    | none => true
def apartB (ops : Array Oper) : Bool :=
  (List.range ops.size).all fun i => (List.range ops.size).all fun j => Nat.beq i j || match (ops[i]?).bind (·.dst), (ops[j]?).bind (·.dst) with
    | some d, some e => !Nat.beq d e
    | _, _ => true
def freshB (n : Nat) (l : List (Nat × Value)) (ops : Array Oper) : Bool :=
  (List.range ops.size).all fun i => match (ops[i]?).bind (·.dst) with
    | some d => Nat.blt d n && l.all fun p => !Nat.beq p.1 d
    | none => true
section
variable {P : Program} {n : Nat} {l : List (Nat × Value)} {ops : Array Oper} {Q : Exit → Act → World → Prop} {md : Region.Mode} {S : World → Prop} {G : World → World → Prop} {T : Nat → Value → World → Prop} {F : Nat → Nat → Value → Value → Prop}
theorem all_listed (hb : backB md ops = true) {listed : Array Bool} (hs : listed.size = ops.size) (hr : Region.ready md ops listed = []) : ∀ i, i < ops.size → listed.getD i false = true := by
  intro i
  induction i using Nat.strongRecOn with
  | _ i ih =>
    intro hi
    cases h : listed.getD i false with
    | true => rfl
    | false =>
      exfalso
      have hm : i ∈ Region.ready md ops listed := by
        refine mem_ready.2 ⟨getD_in (by omega) h, ops[i], Array.getElem?_eq_getElem hi, fun e he hbd => ?_⟩;have h1 := List.all_eq_true.1 hb i (List.mem_range.2 hi);rw [Array.getElem?_eq_getElem hi] at h1;have h2 := Array.all_eq_true_iff_forall_mem.1 h1 e he;rw [hbd] at h2;have h3 : e.on < i := by simpa using h2
        exact ih e.on h3 (by omega)
      rw [hr] at hm;cases hm
theorem Kn.other {a : Act} (h : Kn n l a) {d : Tmp} (v : Value) (hl : l.all (fun p => !Nat.beq p.1 d) = true) : Kn n l (a.put (some d) v) := by
  refine ⟨h.defers, by simp [Act.put, h.size], fun t u hu => ?_⟩
  have hne : d ≠ t := by
    intro e;subst e;clear h
    induction l with
    | nil => simp [find] at hu
    | cons p l ih =>
      obtain ⟨k, v⟩ := p;simp only [List.all_cons, Bool.and_eq_true, Bool.not_eq_true'] at hl;rw [find, hl.1] at hu;exact ih hl.2 hu
  rw [← h.get t u hu];simp only [Act.put, Act.eval];rw [Array.getD_eq_getD_getElem?, Array.getD_eq_getD_getElem?, Array.getElem?_setIfInBounds_ne hne]
theorem eval_put_same {a : Act} {d : Tmp} (v : Value) (h : d < a.tmps.size) : (a.put (some d) v).eval (.tmp d) = v := by simp [Act.put, Act.eval, h]
theorem eval_put_ne {a : Act} {d t : Tmp} (v : Value) (h : d ≠ t) : (a.put (some d) v).eval (.tmp t) = a.eval (.tmp t) := by
  simp only [Act.put, Act.eval];rw [Array.getD_eq_getD_getElem?, Array.getD_eq_getD_getElem?, Array.getElem?_setIfInBounds_ne h]
def Has (md : Region.Mode) (ops : Array Oper) (T : Nat → Value → World → Prop) (o : Oper) (a : Act) (w : World) : Prop :=
  ∀ j d, o.after.toList.any (fun e => Region.binds md e && Nat.beq e.on j) = true → (ops[j]?).bind (·.dst) = some d → T j (a.eval (.tmp d)) w
def Op1 (P : Program) (ops : Array Oper) (Q : Exit → Act → World → Prop) (S : World → Prop) (G : World → World → Prop) (T : Nat → Value → World → Prop) (F : Nat → Nat → Value → Value → Prop) (i : Nat) (o : Oper) (L : Nat → Prop) (a : Act) (w : World) : Prop :=
  if Region.wanted o (yielded ops a.tmps) then o.wp P a w (fun a' w' => ∃ v, a' = a.put o.dst v ∧ T i v w' ∧ S w' ∧ G w w' ∧ ∀ k d, k ≠ i → L k → (ops[k]?).bind (·.dst) = some d → F i k v (a.eval (.tmp d)) ∧ F k i (a.eval (.tmp d)) v) Q
  else T i undef w ∧ ∀ k d, k ≠ i → L k → (ops[k]?).bind (·.dst) = some d → F i k undef (a.eval (.tmp d)) ∧ F k i (a.eval (.tmp d)) undef
def Two (ops : Array Oper) (F : Nat → Nat → Value → Value → Prop) (L : Nat → Prop) (a : Act) : Prop := ∀ j k d e, j ≠ k → L j → L k → (ops[j]?).bind (·.dst) = some d → (ops[k]?).bind (·.dst) = some e → F j k (a.eval (.tmp d)) (a.eval (.tmp e))
def One (ops : Array Oper) (T : Nat → Value → World → Prop) (L : Nat → Prop) (a : Act) (w : World) : Prop := ∀ k d, L k → (ops[k]?).bind (·.dst) = some d → T k (a.eval (.tmp d)) w
def Ahead (md : Region.Mode) (o : Oper) (L : Nat → Prop) : Prop := ∀ j, o.after.toList.any (fun e => Region.binds md e && Nat.beq e.on j) = true → L j
def Ok (P : Program) (n : Nat) (l : List (Nat × Value)) (md : Region.Mode) (ops : Array Oper) (Q : Exit → Act → World → Prop) (S : World → Prop) (G : World → World → Prop) (T : Nat → Value → World → Prop) (F : Nat → Nat → Value → Value → Prop) (i : Nat) (o : Oper) : Prop :=
  ∀ a w L, Kn n l a → S w → One ops T L a w → Two ops F L a → Ahead md o L → Op1 P ops Q S G T F i o L a w
def Oks (P : Program) (n : Nat) (l : List (Nat × Value)) (md : Region.Mode) (ops : Array Oper) (Q : Exit → Act → World → Prop) (S : World → Prop) (G : World → World → Prop) (T : Nat → Value → World → Prop) (F : Nat → Nat → Value → Value → Prop) : Nat → List Oper → Prop
  | _, [] => True
  | k, o :: r => Ok P n l md ops Q S G T F k o ∧ Oks P n l md ops Q S G T F (k + 1) r
theorem Oks.at {r : List Oper} {k : Nat} (h : Oks P n l md ops Q S G T F k r) {j : Nat} {o : Oper} (hj : r[j]? = some o) : Ok P n l md ops Q S G T F (k + j) o := by
  induction r generalizing k j with
  | nil => simp at hj
  | cons x r ih =>
    cases j with
    | zero => simp at hj; subst hj; exact h.1
    | succ j =>
      have := ih h.2 (j := j) (by simpa using hj)
      rwa [show k + 1 + j = k + (j + 1) by omega] at this
structure Reg (n : Nat) (l : List (Nat × Value)) (ops : Array Oper) (S : World → Prop) (T : Nat → Value → World → Prop) (F : Nat → Nat → Value → Value → Prop) (listed : Array Bool) (a : Act) (w : World) : Prop where
  kn : Kn n l a
  size : listed.size = ops.size
  ok : S w
  slots : ∀ j d, (ops[j]?).bind (·.dst) = some d → listed.getD j false = true → T j (a.eval (.tmp d)) w
  pairs : ∀ i j d e, i ≠ j → (ops[i]?).bind (·.dst) = some d → (ops[j]?).bind (·.dst) = some e → listed.getD i false = true → listed.getD j false = true → F i j (a.eval (.tmp d)) (a.eval (.tmp e))
  stores : ∀ j o, ops[j]? = some o → o.dst = none → listed.getD j false = true → ∃ v, T j v w
theorem Reg.next (hap : apartB ops = true) (hfr : freshB n l ops = true) {listed : Array Bool} {a : Act} {w w' : World} {i : Nat} {o : Oper} {v : Value} (h : Reg n l ops S T F listed a w) (ho : ops[i]? = some o) (hv : T i v w') (hS : S w') (hG : ∀ j u, T j u w → T j u w') (hF : ∀ k d, k ≠ i → listed.getD k false = true → (ops[k]?).bind (·.dst) = some d → F i k v (a.eval (.tmp d)) ∧ F k i (a.eval (.tmp d)) v) : Reg n l ops S T F (listed.setIfInBounds i true) (a.put o.dst v) w' := by
  have hi : i < ops.size := (Array.getElem?_eq_some_iff.1 ho).1;have hob : (ops[i]?).bind (·.dst) = o.dst := by rw [ho]; rfl
  cases hd : o.dst with
  | none =>
    have old : ∀ j d, (ops[j]?).bind (·.dst) = some d → (listed.setIfInBounds i true).getD j false = true → listed.getD j false = true := fun j d hj hl => by
      by_cases e : i = j
      · subst e; rw [hob, hd] at hj; cases hj
      · rwa [getD_set_ne false e] at hl
    exact ⟨h.kn, by simp [h.size], hS, fun j d hj hl => hG _ _ (h.slots j d hj (old j d hj hl)), fun j k d e hne hj hk hl hm => h.pairs j k d e hne hj hk (old j d hj hl) (old k e hk hm), fun j o2 hj hd2 hl => by
      by_cases e : i = j
      · subst e; exact ⟨v, hv⟩
      · rw [getD_set_ne false e] at hl;obtain ⟨u, hu⟩ := h.stores j o2 hj hd2 hl
        exact ⟨u, hG _ _ hu⟩⟩
  | some d =>
    have h1 := List.all_eq_true.1 hfr i (List.mem_range.2 hi);rw [hob, hd] at h1;simp only [Bool.and_eq_true] at h1;have hdn : d < a.tmps.size := by rw [h.kn.size]; exact Nat.le_of_ble_eq_true h1.1
    have oth : ∀ j e, i ≠ j → (ops[j]?).bind (·.dst) = some e → (a.put (some d) v).eval (.tmp e) = a.eval (.tmp e) := fun j e hij hj => by
      have hjs : j < ops.size := by
        cases hj2 : ops[j]? with
        | none => rw [hj2] at hj; cases hj
        | some x => exact (Array.getElem?_eq_some_iff.1 hj2).1
      have h2 := List.all_eq_true.1 (List.all_eq_true.1 hap i (List.mem_range.2 hi)) j (List.mem_range.2 hjs);rw [hob, hd, hj, beq_no hij] at h2;have hde : d ≠ e := fun e' => by subst e'; simp at h2
      exact eval_put_ne v hde
    refine ⟨h.kn.other v h1.2, by simp [h.size], hS, fun j e hj hl => ?_, fun j k e f hne hj hk hl hm => ?_, fun j o2 hj hd2 hl => ?_⟩
    rotate_right
    · by_cases hij : i = j
      · subst hij;rw [ho] at hj;obtain rfl := Option.some.inj hj;rw [hd] at hd2;cases hd2
      · rw [getD_set_ne false hij] at hl;obtain ⟨u, hu⟩ := h.stores j o2 hj hd2 hl;exact ⟨u, hG _ _ hu⟩
    · by_cases hij : i = j
      · subst hij;rw [hob, hd] at hj;obtain rfl := Option.some.inj hj;rw [eval_put_same v hdn];exact hv
      · rw [getD_set_ne false hij] at hl;rw [oth j e hij hj];exact hG _ _ (h.slots j e hj hl)
    · by_cases hij : i = j
      · subst hij;rw [hob, hd] at hj;obtain rfl := Option.some.inj hj;rw [getD_set_ne false hne] at hm;rw [eval_put_same v hdn, oth k f hne hk];exact (hF k f (fun e => hne e.symm) hm hk).1
      · rw [getD_set_ne false hij] at hl;rw [oth j e hij hj]
        by_cases hik : i = k
        · subst hik;rw [hob, hd] at hk;obtain rfl := Option.some.inj hk;rw [eval_put_same v hdn];exact (hF j e (fun e => hij e.symm) hl hj).2
        · rw [getD_set_ne false hik] at hm;rw [oth k f hik hk];exact h.pairs j k e f hne hj hk hl hm
theorem wpAny_reg (hback : backB md ops = true) (hap : apartB ops = true) (hfr : freshB n l ops = true) (hT : ∀ i v w w', G w w' → T i v w → T i v w') (hok : Oks P n l md ops Q S G T F 0 ops.toList)
    (hend : ∀ a w, Kn n l a → S w → (∀ j d, (ops[j]?).bind (·.dst) = some d → T j (a.eval (.tmp d)) w) → (∀ i j d e, i ≠ j → (ops[i]?).bind (·.dst) = some d → (ops[j]?).bind (·.dst) = some e → F i j (a.eval (.tmp d)) (a.eval (.tmp e))) → (∀ j o, ops[j]? = some o → o.dst = none → ∃ v, T j v w) → Q .normal a w) :
    ∀ (fuel : Nat) (listed : Array Bool) (a : Act) (w : World), listed.toList.countP (fun b => !b) ≤ fuel → Reg n l ops S T F listed a w → wpAny P md ops Q fuel listed a w := by
  have fin : ∀ (listed : Array Bool) (a : Act) (w : World), Reg n l ops S T F listed a w → Region.ready md ops listed = [] → Q .normal a w := fun listed a w h hr => by
    have al : ∀ j d, (ops[j]?).bind (·.dst) = some d → listed.getD j false = true := fun j d hj => by
      have hjs : j < ops.size := by
        cases hj2 : ops[j]? with
        | none => rw [hj2] at hj; cases hj
        | some x => exact (Array.getElem?_eq_some_iff.1 hj2).1
      exact all_listed hback h.size hr j hjs
    exact hend a w h.kn h.ok (fun j d hj => h.slots j d hj (al j d hj)) (fun i j d e hne hi hj => h.pairs i j d e hne hi hj (al i d hi) (al j e hj)) fun j o hj hd => h.stores j o hj hd (all_listed hback h.size hr j (Array.getElem?_eq_some_iff.1 hj).1)
  intro fuel
  induction fuel with
  | zero =>
    intro listed a w hc h
    have hr : Region.ready md ops listed = [] := by
      cases hr : Region.ready md ops listed with
      | nil => rfl
      | cons i r =>
        exfalso
        have hi := (mem_ready.1 (show i ∈ Region.ready md ops listed by rw [hr]; exact List.mem_cons_self)).1
        have hil : i < listed.size := by
          rcases Nat.lt_or_ge i listed.size with h' | h'
          · exact h'
          · simp [Array.getElem?_eq_none h'] at hi
        have hz : listed.toList.countP (fun b => !b) = 0 := by omega
        rw [List.countP_eq_zero] at hz;have := hz listed[i] (by simp);simp [hil] at hi;simp [hi] at this
    exact ⟨hr, fin listed a w h hr⟩
  | succ fuel ih =>
    intro listed a w hc h;refine ⟨fin listed a w h, fun i hi => ?_⟩;obtain ⟨hun, o, ho, hall⟩ := mem_ready.1 hi
    have hil : i < listed.size := by
      rcases Nat.lt_or_ge i listed.size with h' | h'
      · exact h'
      · simp [Array.getElem?_eq_none h'] at hun
    have hcount : (listed.setIfInBounds i true).toList.countP (fun b => !b) ≤ fuel := by
      have hli : listed[i] = false := by simpa [hil] using hun
      rw [Array.toList_setIfInBounds, List.countP_set (by simpa using hil)];simp only [Array.getElem_toList, hli];simp only [Bool.not_false, Bool.not_true, if_true, Bool.false_eq_true, if_false];omega
    have hok' := hok.at (j := i) (o := o) (by rw [Array.getElem?_toList]; exact ho);rw [Nat.zero_add] at hok'
    have hs := hok' a w (fun k => listed.getD k false = true) h.kn h.ok (fun k d hk hd => h.slots k d hd hk) (fun j k d e hne hj hk hd he => h.pairs j k d e hne hd he hj hk) (fun j hj => by
      obtain ⟨e, he, he2⟩ := List.any_eq_true.1 hj;simp only [Bool.and_eq_true] at he2;have := Nat.eq_of_beq_eq_true he2.2;subst this
      exact hall e (Array.mem_toList_iff.1 he) he2.1)
    unfold Op1 at hs;unfold wpOp;simp only [ho]
    split
    · rename_i hw;rw [if_pos hw] at hs;refine .inl (Oper.wp_mono (fun a' w' hx => ?_) hs);obtain ⟨v, rfl, hv, hS, hG, hF⟩ := hx;exact ih _ _ _ hcount (h.next hap hfr ho hv hS (fun j u hu => hT j u _ _ hG hu) hF)
    · rename_i hw;rw [if_neg hw] at hs;exact ih _ _ _ hcount (h.next hap hfr ho hs.1 h.ok (fun j u hu => hu) hs.2)
theorem anyFU {id : Nat} {os : List Oper} {a : Act} {w : World} (S : World → Prop) (G : World → World → Prop) (T : Nat → Value → World → Prop) (F : Nat → Nat → Value → Value → Prop) (hm : P.follows .mixedOrders = true) (h : Kn n l a) (hback : backB .any os.toArray = true) (hap : apartB os.toArray = true) (hfr : freshB n l os.toArray = true)
    (hT : ∀ i v w w', G w w' → T i v w → T i v w') (hS : S w.drew) (hok : Oks P n l .any os.toArray Q S G T F 0 os)
    (hend : ∀ a w, Kn n l a → S w → (∀ j d, (os.toArray[j]?).bind (·.dst) = some d → T j (a.eval (.tmp d)) w) → (∀ i j d e, i ≠ j → (os.toArray[i]?).bind (·.dst) = some d → (os.toArray[j]?).bind (·.dst) = some e → F i j (a.eval (.tmp d)) (a.eval (.tmp e))) → (∀ j o, os.toArray[j]? = some o → o.dst = none → ∃ v, T j v w) → Q .normal a w) : (Code.region id os.toArray true).wp P Q a w := by
  refine wp_region_any hm (wpAny_reg (S := S) (G := G) (T := T) (F := F) hback hap hfr hT (by simpa using hok) hend _ _ _ _ ?_ ⟨h, by simp, hS, fun j d hj hl => ?_, fun i j d e _ _ _ hl _ => ?_, fun j o hj hd hl => ?_⟩)
  · refine Nat.le_trans List.countP_le_length ?_;simp
  · rw [getD_replicate_false] at hl; cases hl
  · rw [getD_replicate_false] at hl; cases hl
  · rw [getD_replicate_false] at hl; cases hl
theorem anyF {id : Nat} {os : List Oper} {a : Act} {w : World} (S : World → Prop) (G : World → World → Prop) (T : Nat → Value → World → Prop) (F : Nat → Nat → Value → Value → Prop) (hm : P.follows .mixedOrders = true) (h : Kn n l a) (hback : backB .any os.toArray = true) (hap : apartB os.toArray = true) (hfr : freshB n l os.toArray = true)
    (hT : ∀ i v w w', G w w' → T i v w → T i v w') (hS : S w.drew) (hok : Oks P n l .any os.toArray Q S G T F 0 os)
    (hend : ∀ a w, Kn n l a → S w → (∀ j d, (os.toArray[j]?).bind (·.dst) = some d → T j (a.eval (.tmp d)) w) → (∀ i j d e, i ≠ j → (os.toArray[i]?).bind (·.dst) = some d → (os.toArray[j]?).bind (·.dst) = some e → F i j (a.eval (.tmp d)) (a.eval (.tmp e))) → Q .normal a w) : (Code.region id os.toArray true).wp P Q a w :=
  anyFU S G T F hm h hback hap hfr hT hS hok fun a w h1 h2 h3 h4 _ => hend a w h1 h2 h3 h4
def F0 : Nat → Nat → Value → Value → Prop := fun _ _ _ _ => True
theorem any {id : Nat} {os : List Oper} {a : Act} {w : World} (S : World → Prop) (G : World → World → Prop) (T : Nat → Value → World → Prop) (hm : P.follows .mixedOrders = true) (h : Kn n l a) (hback : backB .any os.toArray = true) (hap : apartB os.toArray = true) (hfr : freshB n l os.toArray = true)
    (hT : ∀ i v w w', G w w' → T i v w → T i v w') (hS : S w.drew) (hok : Oks P n l .any os.toArray Q S G T F0 0 os)
    (hend : ∀ a w, Kn n l a → S w → (∀ j d, (os.toArray[j]?).bind (·.dst) = some d → T j (a.eval (.tmp d)) w) → Q .normal a w) : (Code.region id os.toArray true).wp P Q a w :=
  anyF S G T F0 hm h hback hap hfr hT hS hok fun a w h1 h2 h3 _ => hend a w h1 h2 h3
theorem anyU {id : Nat} {os : List Oper} {a : Act} {w : World} (S : World → Prop) (G : World → World → Prop) (T : Nat → Value → World → Prop) (hm : P.follows .mixedOrders = true) (h : Kn n l a) (hback : backB .any os.toArray = true) (hap : apartB os.toArray = true) (hfr : freshB n l os.toArray = true)
    (hT : ∀ i v w w', G w w' → T i v w → T i v w') (hS : S w.drew) (hok : Oks P n l .any os.toArray Q S G T F0 0 os)
    (hend : ∀ a w, Kn n l a → S w → (∀ j d, (os.toArray[j]?).bind (·.dst) = some d → T j (a.eval (.tmp d)) w) → (∀ j o, os.toArray[j]? = some o → o.dst = none → ∃ v, T j v w) → Q .normal a w) : (Code.region id os.toArray true).wp P Q a w :=
  anyFU S G T F0 hm h hback hap hfr hT hS hok fun a w h1 h2 h3 _ h5 => hend a w h1 h2 h3 h5
theorem aopU {i : Nat} {o : Oper} {L : Nat → Prop} {a : Act} {w : World} {s : Sem Unit} {l' : List (Nat × Value)} (h : Kn n l' a) (_hd : o.dst = none) (hw : Wants ops l' o.guard true) (he : execOp a.eval o = ul s)
    (H : ∀ K : World → Prop, (∀ w', T i undef w' → S w' → G w w' → K w') → SatU K (s.run P w)) : Op1 P ops Q S G T F0 i o L a w := by
  unfold Op1;rw [h.wants hw, if_pos rfl];unfold Oper.wp;rw [he];have := H _ fun w' h1 h2 h3 => (show ∃ v, a.put o.dst undef = a.put o.dst v ∧ T i v w' ∧ S w' ∧ G w w' ∧ ∀ k d, k ≠ i → L k → (ops[k]?).bind (·.dst) = some d → F0 i k v (a.eval (.tmp d)) ∧ F0 k i (a.eval (.tmp d)) v from ⟨_, rfl, h1, h2, h3, fun _ _ _ _ _ => ⟨trivial, trivial⟩⟩)
  cases hs : s.run P w with
  | ok v w' =>
    rw [hs] at this;simp [go_sem, hs];exact this
  | halt x w' => rw [hs] at this; exact this.elim
theorem ones {o : Oper} {i : Nat} {r : List Oper} (h1 : Ok P n l md ops Q S G T F i o) (h2 : Oks P n l md ops Q S G T F (i + 1) r) : Oks P n l md ops Q S G T F i (o :: r) := ⟨h1, h2⟩
theorem ok {i : Nat} {o : Oper} (h : ∀ a w L, Kn n l a → S w → Has md ops T o a w → Op1 P ops Q S G T F i o L a w) : Ok P n l md ops Q S G T F i o := fun a w L h1 h2 h3 _ h5 => h a w L h1 h2 fun j d hj hd => h3 j d (h5 j hj) hd
theorem aopF {i : Nat} {o : Oper} {L : Nat → Prop} {a : Act} {w : World} {s : Sem Value} {l' : List (Nat × Value)} (h : Kn n l' a) (hw : Wants ops l' o.guard true) (he : execOp a.eval o = vl s)
    (H : ∀ K : Value → World → Prop, (∀ v w', T i v w' → S w' → G w w' → (∀ k d, k ≠ i → L k → (ops[k]?).bind (·.dst) = some d → F i k v (a.eval (.tmp d)) ∧ F k i (a.eval (.tmp d)) v) → K v w') → Sat K (s.run P w)) : Op1 P ops Q S G T F i o L a w := by
  unfold Op1;rw [h.wants hw, if_pos rfl];exact run_value s w _ o a (H _ fun v w' h1 h2 h3 h4 => ⟨v, rfl, h1, h2, h3, h4⟩) he
theorem aop {i : Nat} {o : Oper} {L : Nat → Prop} {a : Act} {w : World} {s : Sem Value} {l' : List (Nat × Value)} (h : Kn n l' a) (hw : Wants ops l' o.guard true) (he : execOp a.eval o = vl s)
    (H : ∀ K : Value → World → Prop, (∀ v w', T i v w' → S w' → G w w' → K v w') → Sat K (s.run P w)) : Op1 P ops Q S G T F0 i o L a w :=
  aopF h hw he fun K hK => H K fun v w' h1 h2 h3 => hK v w' h1 h2 h3 fun _ _ _ _ _ => ⟨trivial, trivial⟩
theorem apure {i : Nat} {o : Oper} {L : Nat → Prop} {a : Act} {w : World} {v : Value} {l' : List (Nat × Value)} (h : Kn n l' a) (hw : Wants ops l' o.guard true) (he : execOp a.eval o = vl (.pure v)) (h1 : T i v w) (h2 : S w) (h3 : G w w) : Op1 P ops Q S G T F0 i o L a w :=
  aop h hw he fun _ hK => hK _ _ h1 h2 h3
theorem acall {i : Nat} {o : Oper} {L : Nat → Prop} {a : Act} {w : World} {f : FuncId} {args : Array Value} {R : Ending → World → Prop} {l' : List (Nat × Value)} (h : Kn n l' a) (hw : Wants ops l' o.guard true) (he : execOp a.eval o = callFunc f args)
    (hc : ∀ (args : Array Value) (w : World), (callFunc f args).run P w = .ok (.enter f args) w) (hR : Calls P f args w R) (H : ∀ e w', R e w' → ∃ v, e = .returned v ∧ T i v w' ∧ S w' ∧ G w w') : Op1 P ops Q S G T F0 i o L a w := by
  unfold Op1;rw [h.wants hw, if_pos rfl];unfold Oper.wp;rw [he, hc];refine hR.mono fun e w' hr => ?_;obtain ⟨v, rfl, h1, h2, h3⟩ := H e w' hr;exact ⟨v, rfl, h1, h2, h3, fun _ _ _ _ _ => ⟨trivial, trivial⟩⟩
end
def TL : List (Value → World → Prop) → Nat → Value → World → Prop
  | [], _, _, _ => True
  | p :: _, 0, v, w => p v w
  | _ :: l, i + 1, v, w => TL l i v w
inductive Keeps (G : World → World → Prop) : List (Value → World → Prop) → Prop
  | nil : Keeps G []
  | cons {p : Value → World → Prop} {l : List (Value → World → Prop)} (h : ∀ v w w', G w w' → p v w → p v w') (r : Keeps G l) : Keeps G (p :: l)
theorem Keeps.all {G : World → World → Prop} {l : List (Value → World → Prop)} (h : Keeps G l) : ∀ i v w w', G w w' → TL l i v w → TL l i v w' := by
  induction h with
  | nil => intro i v w w' _ _; exact trivial
  | cons h1 _ ih =>
    intro i v w w' hg ht
    cases i with
    | zero => exact h1 v w w' hg ht
    | succ i => exact ih i v w w' hg ht
def Is (x : Value) : Value → World → Prop := fun v _ => v = x
theorem Is.keep {G : World → World → Prop} {x : Value} : ∀ v w w', G w w' → Is x v w → Is x v w' := fun _ _ _ _ h => h
end Go.Proofs.YtcamanopfhbchaaDoor.Kn
end
section
namespace Go.Proofs.YtcamanopfhbchaaDoor.Sha
open Go.RowKit Go.Lib
def loopsOf : Code → List Code
  | .loop c => c :: loopsOf c
  | .seq a b => loopsOf a ++ loopsOf b
  | .block _ c => loopsOf c
  | .scope c => loopsOf c
  | .cond _ a b => loopsOf a ++ loopsOf b
  | _ => []
noncomputable def bodyS (n : Nat) : Code := (((Tryd.f42.body.map loopsOf).getD [])[n]?).getD .skip
structure Kept (v v' : World) (g g' : Nat) : Prop where
  at' : g' = g ∨ v.heap.size ≤ g'
  size : v.heap.size ≤ v'.heap.size
  own : ∀ {B g2 cap2 : Nat} {l2 : List Nat}, g2 ≠ g → OwnI v B g2 cap2 l2 → OwnI v' B g2 cap2 l2
  rn : ∀ {g2 : Nat} {l2 : List Nat}, g2 ≠ g → RN v g2 l2 → RN v' g2 l2
theorem below_drew {B : Nat} {w w' : World} (h : Below B w w') : Below B w w'.drew := ⟨h.1, h.2, h.3, h.4, h.5⟩
theorem below_drewN {B : Nat} {w w' : World} (h : Below B w w') (n : Nat) : Below B w (w'.drewN n) := ⟨h.1, h.2, h.3, h.4, h.5⟩
theorem push1 (w0 v : World) (ty : TypeId) (g cap L x : Nat) (l : List Nat) (hO : OwnI v w0.heap.size g cap l) (hL : L = l.length) (hb : Below w0.heap.size w0 v) (hl : L ≤ 1000) :
    ∃ g' cap' v', (Builtin.append_ #[25, 25] ty #[.slice (some ⟨g, 0, none⟩) L cap, .slice (some ⟨v.heap.size, 0, none⟩) 1 1]).run Tryd.prog (v.alloc (.cells #[.int .i64 (x : Int)] 3)) = .ok (.slice (some ⟨g', 0, none⟩) (L + 1) cap') v' ∧
      OwnI v' w0.heap.size g' cap' (l ++ [x]) ∧ Below w0.heap.size w0 v' ∧ Kept v v' g g' := by
  subst hL;have hs := hb.size;obtain ⟨g', cap', v', hrun, h1, h2, h3, _⟩ := run_push (v.alloc (.cells #[.int .i64 (x : Int)] 3)) ty w0.heap.size g cap v.heap.size x l (0, 0) (hO.alloc _) (heap_alloc_new _ _) (by simp; omega) (by omega);refine ⟨g', cap', v', hrun, h1, (hb.alloc hs _).grown h2 (by simp; omega) (fun k hk => by cases hk; exact hO.ge), ?_, ?_, ?_, ?_⟩
  · rcases h3 with h | h
    · exact .inl h
    · simp at h; exact .inr (by omega)
  · have := h2.size; simp at this; omega
  · intro B g2 cap2 l2 hne h;exact (h.alloc _).grown h2 (by simp; exact hne)
  · intro g2 l2 hne h;exact (h.alloc _).grown h2 (by simp; exact hne)
theorem pushM (w0 v : World) (ty : TypeId) (g cap L m c b o : Nat) (l src : List Nat) (hO : OwnI v w0.heap.size g cap l) (hL : L = l.length) (hm : m = src.length) (hp : 0 < L + m) (hsrc : ∀ j u, (src.map iV)[j]? = some u → v.cell? ((⟨b, o, none⟩ : Addr).add j) = some u) (hb : Below w0.heap.size w0 v) (hl : L + m ≤ 1000) :
    ∃ g' cap' v', (Builtin.append_ #[25, 25] ty #[.slice (some ⟨g, 0, none⟩) L cap, .slice (some ⟨b, o, none⟩) m c]).run Tryd.prog v = .ok (.slice (some ⟨g', 0, none⟩) (L + m) cap') v' ∧
      OwnI v' w0.heap.size g' cap' (l ++ src) ∧ Below w0.heap.size w0 v' ∧ Kept v v' g g' := by
  subst hL hm;have hs := hb.size;obtain ⟨i0, hi, hz0, hz1, hz2⟩ := info_parts infoI;obtain ⟨v1, v', hrun, h1, h2, _, h3⟩ := run_append_own_at (P := Tryd.prog) (w := v) w0.heap.size 25 ty 3 i0 (.int .i64 0) 1 8 Tryd.underlying25 hi hz0 hz1 hz2 rfl (by decide) (.slice (some ⟨g, 0, none⟩) l.length cap) l.length (l.map iV) hO ⟨b, o, none⟩ src.length c (src.map iV) (by simp) hsrc (ints_one _) (by unfold maxLen; omega) (by omega) hs;obtain ⟨g', cap', rfl, h4, h5⟩ := h1.form hp;refine ⟨g', cap', v', hrun, ?_, hb.grown h2 hs (fun k hk => by simp [Value.ownBlock] at hk; subst hk; exact hO.ge), ?_, h2.size, ?_, ?_⟩
  · unfold OwnI; rw [List.length_append, List.map_append]; exact h1
  · rcases h3 with h | h
    · simp [Value.ownBlock] at h; exact .inl h
    · simp [Value.ownBlock] at h; exact .inr (by omega)
  · intro B g2 cap2 l2 hne h;exact h.grown h2 (by simp [Value.ownBlock]; exact hne)
  · intro g2 l2 hne h;exact h.grown h2 (by simp [Value.ownBlock]; exact hne)
theorem OwnI.lt' {w : World} {B g cap : Nat} {l : List Nat} (h : OwnI w B g cap l) : g < w.heap.size := (h.lt g rfl).2
theorem OwnI.cell {w : World} {B g cap : Nat} {l : List Nat} (h : OwnI w B g cap l) {j : Nat} (hj : j < l.length) : w.cell? ⟨g, j, none⟩ = some (.int .i64 ((wd l j : Nat) : Int)) := h.rn.2 j hj
theorem OwnI.drew {w : World} {B g cap : Nat} {l : List Nat} (h : OwnI w B g cap l) : OwnI w.drew B g cap l := h
theorem knPush {P : Program} {n : Nat} {l : List (Nat × Value)} {a : Act} {w : World} {Q : Exit → Act → World → Prop} {id : Nat} {o0 : Oper} {rest hd tl : List Oper} {s d : Tmp} {v : Value} (k : Nat) (hm : P.follows .mixedOrders = true) (h : Kn.Kn n l a) (hB : pushB .any (o0 :: rest).toArray (k + 1) = true) (ho : o0.op = .move (.tmp s)) (hg : o0.guard = none) (hd0 : o0.dst = some d) (hdn : Nat.blt d n = true)
    (hv : Kn.find l s = some v) (hQ : ∀ d v c b w, Q (.panic c) (b.put d v) w → Q (.panic c) b w) (h1 : rest.take k = hd) (h2 : rest.drop k = tl)
    (H : ∀ a', Kn.Kn n ((d, v) :: l) a' → wpStill P (o0 :: rest).toArray w.drew (fun a' => wpList P (o0 :: rest).toArray Q tl a' w.drew) hd a') : (Code.region id (o0 :: rest).toArray true).wp P Q a w := by
  subst h1 h2;refine wp_region_push k hm hB ho hg (fun _ _ _ _ => hQ _ _ _ _ _) ?_;rw [hd0, h.get s v hv];exact H _ (h.put hdn v)
end Go.Proofs.YtcamanopfhbchaaDoor.Sha
end
section
namespace Go.Proofs.YtcamanopfhbchaaDoor.Sha
open Go.RowKit Go.Lib
structure Ws (w0 v : World) (gw capw : Nat) (lw : List Nat) (gh caph : Nat) (Hm : List Nat) (g2 cap2 : Nat) (PL : List Nat) : Prop where
  ow : OwnI v w0.heap.size gw capw lw
  oh : OwnI v w0.heap.size gh caph Hm
  ob : OwnI v w0.heap.size g2 cap2 PL
  old : Below w0.heap.size w0 v
  n1 : gw ≠ g2
  n2 : gw ≠ gh
  n3 : gh ≠ g2
section
variable {w0 v v' : World} {gw capw gh caph g2 cap2 g' cap' x : Nat} {lw Hm PL : List Nat}
theorem Ws.drew (h : Ws w0 v gw capw lw gh caph Hm g2 cap2 PL) : Ws w0 v.drew gw capw lw gh caph Hm g2 cap2 PL := ⟨h.ow.drew, h.oh.drew, h.ob.drew, below_drew h.old, h.n1, h.n2, h.n3⟩
theorem Ws.drewN (h : Ws w0 v gw capw lw gh caph Hm g2 cap2 PL) (n : Nat) : Ws w0 (v.drewN n) gw capw lw gh caph Hm g2 cap2 PL := ⟨h.ow.drewN n, h.oh.drewN n, h.ob.drewN n, below_drewN h.old n, h.n1, h.n2, h.n3⟩
theorem Ws.alloc (h : Ws w0 v gw capw lw gh caph Hm g2 cap2 PL) (o : Obj) : Ws w0 (v.alloc o) gw capw lw gh caph Hm g2 cap2 PL := ⟨h.ow.alloc o, h.oh.alloc o, h.ob.alloc o, h.old.alloc h.old.size o, h.n1, h.n2, h.n3⟩
theorem Ws.push (h : Ws w0 v gw capw lw gh caph Hm g2 cap2 PL) (ho : OwnI v' w0.heap.size g' cap' (lw ++ [x])) (hb : Below w0.heap.size w0 v') (hk : Kept v v' gw g') : Ws w0 v' g' cap' (lw ++ [x]) gh caph Hm g2 cap2 PL := by
  have h1 := h.oh.lt';have h2 := h.ob.lt';refine ⟨ho, hk.own (Ne.symm h.n2) h.oh, hk.own (Ne.symm h.n1) h.ob, hb, ?_, ?_, h.n3⟩
  · rcases hk.at' with e | e
    · rw [e]; exact h.n1
    · omega
  · rcases hk.at' with e | e
    · rw [e]; exact h.n2
    · omega
end
theorem turn_l (x : Nat) (i : Int) (n y : Nat) (w : World) (hx : x < 4294967296) (hi : i = (n : Int)) (hn : n < 32) (hy : rotr x n = y) :
    Calls Tryd.prog 54 #[.int .i64 (x : Int), .int .i64 i] w fun e w' => e = .returned (.int .i64 (y : Int)) ∧ ∃ q, w' = w.drewN q :=
  (turn_int x i w hx (by omega) (by omega)).mono fun _ _ ⟨h1, h2⟩ => ⟨by rw [h1, ← hy, hi]; rfl, h2⟩
theorem xorN (a b : Nat) (ha : a < 4294967296) (hb : b < 4294967296) : ∃ c, a ^^^ b = c ∧ c < 4294967296 ∧ bits .xor .i64 (a : Int) (b : Int) = (c : Int) := ⟨_, rfl, xor_lt _ _ ha hb, i64_xor_nat a b ha hb⟩
theorem andN (a b : Nat) (ha : a < 4294967296) (hb : b < 4294967296) : ∃ c, a &&& b = c ∧ c < 4294967296 ∧ bits .and .i64 (a : Int) (b : Int) = (c : Int) := ⟨_, rfl, Nat.lt_of_le_of_lt Nat.and_le_left ha, i64_and_nat a b ha hb⟩
theorem rotN (x n : Nat) (hn : n < 32) (hx : x < 4294967296) : ∃ y, rotr x n = y ∧ y < 4294967296 := ⟨_, rfl, rotr_lt x n (by omega) hx⟩
end Go.Proofs.YtcamanopfhbchaaDoor.Sha
end
section
namespace Go.Proofs.YtcamanopfhbchaaDoor.Sha
open Go.RowKit Go.Lib
set_option maxRecDepth 100000 in
set_option maxHeartbeats 4000000 in
theorem lp5 (w0 v : World) (fa0 : Act) (v1 v12 : Value) (A n2 g2 cap2 gh caph gw capw : Nat) (r : List UInt8) (Hm PL W : List Nat) (Q : Exit → Act → World → Prop) (hP : ∀ d v c b w, Q (.panic c) (b.put d v) w → Q (.panic c) b w)
    (fh0 : Kn.Kn 354 [(15, .int .i64 0), (14, .slice (some ⟨gw, 0, none⟩) 0 capw), (13, .int .i64 (A : Int)), (12, v12), (7, .slice (some ⟨g2, 0, none⟩) n2 cap2), (1, v1)] fa0)
    (hA : A + 64 ≤ n2) (hn : n2 ≤ 600) (HPL : Hid (PL.length = n2)) (HWl : Hid (W.length = 64)) (HWlo : Hid (∀ i, i < 16 → wd W i = be4 r i)) (HBt : Hid (∀ j, j < 64 → wd PL (A + j) = bt r j))
    (hS : Ws w0 v gw capw [] gh caph Hm g2 cap2 PL)
    (hQ : ∀ a v gw capw, Kn.Kn 354 [(14, .slice (some ⟨gw, 0, none⟩) 16 capw), (13, .int .i64 (A : Int)), (12, v12), (7, .slice (some ⟨g2, 0, none⟩) n2 cap2), (1, v1)] a → Ws w0 v gw capw (W.take 16) gh caph Hm g2 cap2 PL → Q .normal a v) :
    (Code.block 8 (.loop (bodyS 4))).wp Tryd.prog Q fa0 v := by
  refine wp_block ?_;refine Kn.loop (fun m fr v => ∃ (k gw capw : Nat), Kn.Kn 354 [(15, .int .i64 (k : Int)), (14, .slice (some ⟨gw, 0, none⟩) k capw), (13, .int .i64 (A : Int)), (12, v12), (7, .slice (some ⟨g2, 0, none⟩) n2 cap2), (1, v1)] fr ∧ k + m = 16 ∧ Hid (Ws w0 v gw capw (W.take k) gh caph Hm g2 cap2 PL)) 16 ⟨0, gw, capw, fh0.cut (.cons (t := 15) rfl (.cons (t := 14) rfl (.cons (t := 13) rfl (.cons (t := 12) rfl (.cons (t := 7) rfl (.cons (t := 1) rfl .nil)))))), rfl, Lib.hid (by rw [List.take_zero]; exact hS)⟩ ?_;clear fh0 fa0;intro m1 fa1 v hI Kl1 hKl1
  conv => arg 2; whnf
  obtain ⟨k, gw, capw, fh1, hk, HS⟩ := hI;clear hS
  by_cases hlt : k < 16
  · refine wp_seq_k fun K2 hK2 => ?_;refine wp_seq_k fun K3 hK3 => ?_;refine wp_region_lit ?_;refine Kn.pure fh1 rfl rfl .none (Kn.ex_move fh1 (.tmp rfl)) fun fa2 fh2 => ?_;clear fh1 fa1;have qd : decide ((k : Int) < 16) = true := decide_eq_true (by omega);refine Kn.step fh2 rfl rfl .none (Kn.ex_bin fh2 (.tmp rfl) .const) fun Ko hKo => ?_;go_simp;(try go_bits);refine hKo _ _ fun fa3 fh3 => ?_;clear hKo Ko fh2 fa2;clear qd;refine wpList_nil ?_;refine hK3 _ _ ?_;clear hK3 K3;replace fh3 := fh3.cut (.cons (t := 85) rfl (.cons (t := 15) rfl (.cons (t := 14) rfl (.cons (t := 13) rfl (.cons (t := 12) rfl (.cons (t := 7) rfl (.cons (t := 1) rfl .nil)))))));refine Kn.yes fh3 (.tmp rfl) ?_;refine wp_skip ?_;refine hK2 _ _ ?_;clear hK2 K2;replace fh3 := fh3.cut (.cons (t := 15) rfl (.cons (t := 14) rfl (.cons (t := 13) rfl (.cons (t := 12) rfl (.cons (t := 7) rfl (.cons (t := 1) rfl .nil))))));refine wp_seq_k fun K4 hK4 => ?_;refine wp_block ?_
    have hcl : ∀ j, j < 4 → v.cell? ⟨g2, A + 4 * k + j, none⟩ = some (.int .i64 ((bt r (4 * k + j) : Nat) : Int)) := fun j hj => by
      rw [HS.out.ob.cell (by rw [HPL.out]; omega), Nat.add_assoc A, HBt.out _ (by omega)]
    obtain ⟨i0, hi0⟩ : ∃ i, A + 4 * k = i := ⟨_, rfl⟩;rw [hi0] at hcl;have j0 : (A : Int) + 4 * (k : Int) = (i0 : Int) := by omega
    have hi0b : i0 + 3 < n2 := by omega
    have HI0 := Lib.hid hi0;clear hi0;obtain ⟨i1, hi1⟩ : ∃ i, i0 + 1 = i := ⟨_, rfl⟩;have j1 : (i0 : Int) + 1 = (i1 : Int) := by omega
    have hi1b : i1 < n2 := by omega
    obtain ⟨i2, hi2⟩ : ∃ i, i0 + 2 = i := ⟨_, rfl⟩;have j2 : (i0 : Int) + 2 = (i2 : Int) := by omega
    have hi2b : i2 < n2 := by omega
    obtain ⟨i3, hi3⟩ : ∃ i, i0 + 3 = i := ⟨_, rfl⟩;have j3 : (i0 : Int) + 3 = (i3 : Int) := by omega
    have hi3b : i3 < n2 := by omega
    have hi0c : i0 < n2 := by omega
    obtain ⟨x0, hx0⟩ : ∃ x, bt r (4 * k + 0) = x := ⟨_, rfl⟩;have c0 := hcl 0 (by omega);have b0 := bt_lt r (4 * k + 0);rw [hx0] at c0 b0;rw [Nat.add_zero] at c0;obtain ⟨x1, hx1⟩ : ∃ x, bt r (4 * k + 1) = x := ⟨_, rfl⟩;have c1 := hcl 1 (by omega);have b1 := bt_lt r (4 * k + 1);rw [hx1] at c1 b1;rw [hi1] at c1;obtain ⟨x2, hx2⟩ : ∃ x, bt r (4 * k + 2) = x := ⟨_, rfl⟩;have c2 := hcl 2 (by omega);have b2 := bt_lt r (4 * k + 2);rw [hx2] at c2 b2;rw [hi2] at c2;obtain ⟨x3, hx3⟩ : ∃ x, bt r (4 * k + 3) = x := ⟨_, rfl⟩;have c3 := hcl 3 (by omega);have b3 := bt_lt r (4 * k + 3);rw [hx3] at c3 b3;rw [hi3] at c3;have HY : Hid (wd W k = x0 * 16777216 + x1 * 65536 + x2 * 256 + x3) := Lib.hid (by rw [HWlo.out k hlt, be4, ← hx0, ← hx1, ← hx2, ← hx3]; rfl);clear hcl hx0 hx1 hx2 hx3 hi1 hi2 hi3;obtain ⟨y, hy⟩ : ∃ y, x0 * 16777216 + x1 * 65536 + x2 * 256 + x3 = y := ⟨_, rfl⟩;rw [hy] at HY;have hyi : (x0 : Int) * 16777216 + (x1 : Int) * 65536 + (x2 : Int) * 256 + (x3 : Int) = (y : Int) := by omega
    have hyb : y < 4294967296 := by omega
    have HHy := Lib.hid hy;clear hy;obtain ⟨gn, capn, vn, hrun, hown, hbel, hkep⟩ := push1 w0 v.drew 25 gw capw k y (W.take k) HS.out.ow.drew (by rw [List.length_take, HWl.out]; omega) (below_drew HS.out.old) (by omega);have HN := Lib.hid (HS.out.drew.push hown hbel hkep);clear hown hbel hkep;refine Sha.knPush 37 (by kernel_rfl) fh3 (by kernel_rfl) rfl rfl rfl rfl rfl (fun _ _ _ _ _ h => hP _ _ _ _ _ h) rfl rfl fun fa4 fh4 => ?_;clear fh3 fa3;refine Kn.spure fh4 rfl rfl .none (Kn.ex_move fh4 (.tmp rfl)) fun fa5 fh5 => ?_;clear fh4 fa4;refine Kn.spure fh5 rfl rfl .none (Kn.ex_move fh5 (.tmp rfl)) fun fa6 fh6 => ?_;clear fh5 fa5;refine Kn.spure fh6 rfl rfl .none (Kn.ex_move fh6 (.tmp rfl)) fun fa7 fh7 => ?_;clear fh6 fa6;refine Kn.sstep fh7 rfl rfl .none (Kn.ex_bin fh7 .const (.tmp rfl)) fun Ko hKo => ?_;go_simp;(try go_bits);refine hKo _ fun fa8 fh8 => ?_;clear hKo Ko fh7 fa7;refine Kn.sstep fh8 rfl rfl .none (Kn.ex_bin fh8 (.tmp rfl) (.tmp rfl)) fun Ko hKo => ?_;go_simp;(try go_bits);refine hKo _ fun fa9 fh9 => ?_;clear hKo Ko fh8 fa8;refine Kn.sstep fh9 rfl rfl .none (Kn.ex_indexAddr fh9 (.tmp rfl) (.tmp rfl)) fun Ko hKo => ?_;go_simp;(try go_bits);refine hKo _ fun fa10 fh10 => ?_;clear hKo Ko fh9 fa9;refine Kn.sstep fh10 rfl rfl .none (Kn.ex_load fh10 (.tmp rfl)) fun Ko hKo => ?_;go_simp;(try go_bits);refine hKo _ fun fa11 fh11 => ?_;clear hKo Ko fh10 fa10;refine Kn.sstep fh11 rfl rfl .none (Kn.ex_bin fh11 (.tmp rfl) .const) fun Ko hKo => ?_;go_simp;(try go_bits);refine hKo _ fun fa12 fh12 => ?_;clear hKo Ko fh11 fa11;refine Kn.spure fh12 rfl rfl .none (Kn.ex_move fh12 (.tmp rfl)) fun fa13 fh13 => ?_;clear fh12 fa12;refine Kn.spure fh13 rfl rfl .none (Kn.ex_move fh13 (.tmp rfl)) fun fa14 fh14 => ?_;clear fh13 fa13;refine Kn.spure fh14 rfl rfl .none (Kn.ex_move fh14 (.tmp rfl)) fun fa15 fh15 => ?_;clear fh14 fa14;refine Kn.sstep fh15 rfl rfl .none (Kn.ex_bin fh15 .const (.tmp rfl)) fun Ko hKo => ?_;go_simp;(try go_bits);refine hKo _ fun fa16 fh16 => ?_;clear hKo Ko fh15 fa15;refine Kn.sstep fh16 rfl rfl .none (Kn.ex_bin fh16 (.tmp rfl) (.tmp rfl)) fun Ko hKo => ?_;go_simp;(try go_bits);refine hKo _ fun fa17 fh17 => ?_;clear hKo Ko fh16 fa16;refine Kn.sstep fh17 rfl rfl .none (Kn.ex_bin fh17 (.tmp rfl) .const) fun Ko hKo => ?_;go_simp;(try go_bits);refine hKo _ fun fa18 fh18 => ?_;clear hKo Ko fh17 fa17;refine Kn.sstep fh18 rfl rfl .none (Kn.ex_indexAddr fh18 (.tmp rfl) (.tmp rfl)) fun Ko hKo => ?_;go_simp;(try go_bits);refine hKo _ fun fa19 fh19 => ?_;clear hKo Ko fh18 fa18;refine Kn.sstep fh19 rfl rfl .none (Kn.ex_load fh19 (.tmp rfl)) fun Ko hKo => ?_;go_simp;(try go_bits);refine hKo _ fun fa20 fh20 => ?_;clear hKo Ko fh19 fa19;refine Kn.sstep fh20 rfl rfl .none (Kn.ex_bin fh20 (.tmp rfl) .const) fun Ko hKo => ?_;go_simp;(try go_bits);refine hKo _ fun fa21 fh21 => ?_;clear hKo Ko fh20 fa20;refine Kn.sstep fh21 rfl rfl .none (Kn.ex_bin fh21 (.tmp rfl) (.tmp rfl)) fun Ko hKo => ?_;go_simp;(try go_bits);refine hKo _ fun fa22 fh22 => ?_;clear hKo Ko fh21 fa21;refine Kn.spure fh22 rfl rfl .none (Kn.ex_move fh22 (.tmp rfl)) fun fa23 fh23 => ?_;clear fh22 fa22;refine Kn.spure fh23 rfl rfl .none (Kn.ex_move fh23 (.tmp rfl)) fun fa24 fh24 => ?_;clear fh23 fa23;refine Kn.spure fh24 rfl rfl .none (Kn.ex_move fh24 (.tmp rfl)) fun fa25 fh25 => ?_;clear fh24 fa24;refine Kn.sstep fh25 rfl rfl .none (Kn.ex_bin fh25 .const (.tmp rfl)) fun Ko hKo => ?_;go_simp;(try go_bits);refine hKo _ fun fa26 fh26 => ?_;clear hKo Ko fh25 fa25;refine Kn.sstep fh26 rfl rfl .none (Kn.ex_bin fh26 (.tmp rfl) (.tmp rfl)) fun Ko hKo => ?_;go_simp;(try go_bits);refine hKo _ fun fa27 fh27 => ?_;clear hKo Ko fh26 fa26;refine Kn.sstep fh27 rfl rfl .none (Kn.ex_bin fh27 (.tmp rfl) .const) fun Ko hKo => ?_;go_simp;(try go_bits);refine hKo _ fun fa28 fh28 => ?_;clear hKo Ko fh27 fa27;refine Kn.sstep fh28 rfl rfl .none (Kn.ex_indexAddr fh28 (.tmp rfl) (.tmp rfl)) fun Ko hKo => ?_;go_simp;(try go_bits);refine hKo _ fun fa29 fh29 => ?_;clear hKo Ko fh28 fa28;refine Kn.sstep fh29 rfl rfl .none (Kn.ex_load fh29 (.tmp rfl)) fun Ko hKo => ?_;go_simp;(try go_bits);refine hKo _ fun fa30 fh30 => ?_;clear hKo Ko fh29 fa29;refine Kn.sstep fh30 rfl rfl .none (Kn.ex_bin fh30 (.tmp rfl) .const) fun Ko hKo => ?_;go_simp;(try go_bits);refine hKo _ fun fa31 fh31 => ?_;clear hKo Ko fh30 fa30;refine Kn.sstep fh31 rfl rfl .none (Kn.ex_bin fh31 (.tmp rfl) (.tmp rfl)) fun Ko hKo => ?_;go_simp;(try go_bits);refine hKo _ fun fa32 fh32 => ?_;clear hKo Ko fh31 fa31;refine Kn.spure fh32 rfl rfl .none (Kn.ex_move fh32 (.tmp rfl)) fun fa33 fh33 => ?_;clear fh32 fa32;refine Kn.spure fh33 rfl rfl .none (Kn.ex_move fh33 (.tmp rfl)) fun fa34 fh34 => ?_;clear fh33 fa33;refine Kn.spure fh34 rfl rfl .none (Kn.ex_move fh34 (.tmp rfl)) fun fa35 fh35 => ?_;clear fh34 fa34;refine Kn.sstep fh35 rfl rfl .none (Kn.ex_bin fh35 .const (.tmp rfl)) fun Ko hKo => ?_;go_simp;(try go_bits);refine hKo _ fun fa36 fh36 => ?_;clear hKo Ko fh35 fa35;refine Kn.sstep fh36 rfl rfl .none (Kn.ex_bin fh36 (.tmp rfl) (.tmp rfl)) fun Ko hKo => ?_;go_simp;(try go_bits);refine hKo _ fun fa37 fh37 => ?_;clear hKo Ko fh36 fa36;refine Kn.sstep fh37 rfl rfl .none (Kn.ex_bin fh37 (.tmp rfl) .const) fun Ko hKo => ?_;go_simp;(try go_bits);refine hKo _ fun fa38 fh38 => ?_;clear hKo Ko fh37 fa37;refine Kn.sstep fh38 rfl rfl .none (Kn.ex_indexAddr fh38 (.tmp rfl) (.tmp rfl)) fun Ko hKo => ?_;go_simp;(try go_bits);refine hKo _ fun fa39 fh39 => ?_;clear hKo Ko fh38 fa38;refine Kn.sstep fh39 rfl rfl .none (Kn.ex_load fh39 (.tmp rfl)) fun Ko hKo => ?_;go_simp;(try go_bits);refine hKo _ fun fa40 fh40 => ?_;clear hKo Ko fh39 fa39;refine Kn.sstep fh40 rfl rfl .none (Kn.ex_bin fh40 (.tmp rfl) (.tmp rfl)) fun Ko hKo => ?_;go_simp;(try go_bits);refine hKo _ fun fa41 fh41 => ?_;clear hKo Ko fh40 fa40;refine wpStill_nil ?_;refine Kn.step fh41 rfl rfl .none (Kn.ex_buildSlice fh41 (.cons (.tmp rfl) .nil)) fun Ko hKo => ?_;go_simp;(try go_bits);refine hKo _ _ fun fa42 fh42 => ?_;clear hKo Ko fh41 fa41;refine Kn.known fh42 rfl rfl .none (Kn.ex_append fh42 (.cons (.tmp rfl) (.cons (.tmp rfl) .nil))) hrun fun fa43 fh43 => ?_
    clear fh42 fa42;clear hrun;refine Kn.pure fh43 rfl rfl .none (Kn.ex_assign fh43 (.tmp rfl)) fun fa44 fh44 => ?_;clear fh43 fa43;refine wpList_nil ?_;refine Kn.block_normal ?_;refine hK4 _ _ ?_;clear hK4 K4;replace fh44 := fh44.cut (.cons (t := 14) rfl (.cons (t := 15) rfl (.cons (t := 13) rfl (.cons (t := 12) rfl (.cons (t := 7) rfl (.cons (t := 1) rfl .nil))))));clear c0 c1 c2 c3 j0 j1 j2 j3 hyi;refine wp_region_lit ?_;refine Kn.pure fh44 rfl rfl .none (Kn.ex_move fh44 (.tmp rfl)) fun fa45 fh45 => ?_;clear fh44 fa44;refine Kn.step fh45 rfl rfl .none (Kn.ex_bin fh45 (.tmp rfl) .const) fun Ko hKo => ?_;go_simp;(try go_bits);refine hKo _ _ fun fa46 fh46 => ?_;clear hKo Ko fh45 fa45;refine Kn.pure fh46 rfl rfl .none (Kn.ex_assign fh46 (.tmp rfl)) fun fa47 fh47 => ?_;clear fh46 fa46;refine wpList_nil ?_;replace fh47 := fh47.cut (.cons (t := 15) rfl (.cons (t := 14) rfl (.cons (t := 13) rfl (.cons (t := 12) rfl (.cons (t := 7) rfl (.cons (t := 1) rfl .nil))))));exact hKl1 (m1 - 1) _ _ (by omega) ⟨k + 1, gn, capn, fh47.cut (.turn (t := 15) rfl (by go_num) (.cons (t := 14) rfl (.cons (t := 13) rfl (.cons (t := 12) rfl (.cons (t := 7) rfl (.cons (t := 1) rfl .nil)))))), by omega, Lib.hid (by rw [take_snoc' W k (by rw [HWl.out]; omega), HY.out]; exact HN.out)⟩
  · obtain rfl : k = 16 := by omega
    refine wp_seq_k fun K2 hK2 => ?_;refine wp_seq_k fun K3 hK3 => ?_;refine wp_region_lit ?_;refine Kn.pure fh1 rfl rfl .none (Kn.ex_move fh1 (.tmp rfl)) fun fa2 fh2 => ?_;clear fh1 fa1;have qd : decide (((16 : Nat) : Int) < 16) = false := decide_eq_false (by omega);refine Kn.step fh2 rfl rfl .none (Kn.ex_bin fh2 (.tmp rfl) .const) fun Ko hKo => ?_;go_simp;(try go_bits);refine hKo _ _ fun fa3 fh3 => ?_;clear hKo Ko fh2 fa2;clear qd;refine wpList_nil ?_;refine hK3 _ _ ?_;clear hK3 K3;replace fh3 := fh3.cut (.cons (t := 85) rfl (.cons (t := 15) rfl (.cons (t := 14) rfl (.cons (t := 13) rfl (.cons (t := 12) rfl (.cons (t := 7) rfl (.cons (t := 1) rfl .nil)))))));refine Kn.no fh3 (.tmp rfl) ?_;replace fh3 := fh3.cut (.cons (t := 15) rfl (.cons (t := 14) rfl (.cons (t := 13) rfl (.cons (t := 12) rfl (.cons (t := 7) rfl (.cons (t := 1) rfl .nil))))));refine wp_exit ?_;refine Kn.then_exit ?_;clear hK2 K2;refine Kn.then_exit ?_;clear hKl1 Kl1;refine Kn.block_exit ?_;replace fh3 := fh3.cut (.cons (t := 14) rfl (.cons (t := 13) rfl (.cons (t := 12) rfl (.cons (t := 7) rfl (.cons (t := 1) rfl .nil)))));exact hQ _ _ gw capw fh3 HS.out
end Go.Proofs.YtcamanopfhbchaaDoor.Sha
end
