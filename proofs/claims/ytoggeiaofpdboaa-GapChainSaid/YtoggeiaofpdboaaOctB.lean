/- Contracts of layer 1 (octet): appendShort, PutShort. -/
import Derived.Test.YtoggeiaofpdboaaOctA
import Derived.Laws.IdiomStrings
import Derived.Lib.UnsafeStr
namespace Go.Proofs.Ytoggeiaofpdboaa.Oct
open Go.RowKit Go.Lib

theorem infoByte : (Try.prog.info? 5).map (fun i => (i.zero, i.size, i.bytes)) = some (some (.int .u8 0), 1, 1) := by kernel_rfl
theorem byteCells_snoc (l : List UInt8) (b : UInt8) : byteCells (l ++ [b]) = byteCells l ++ [Value.int .u8 b.toNat] := by simp [byteCells]
theorem byteCells_len (l : List UInt8) : (byteCells l).length = l.length := by simp [byteCells]

set_option maxRecDepth 100000 in
set_option maxHeartbeats 1000000 in
theorem appendShort_any (base : Nat) (v : Value) (bs : List UInt8) (x : Nat) (w : World) (hx : (x : Int) ≤ 9223372036854775807)
    (hown : w.ownsRow base 5 1 v bs.length (byteCells bs)) (hbase : base ≤ w.heap.size) (hlen : (bs.length : Int) ≤ 70368744177664) :
    Calls Try.prog 21 #[v, .int .i64 (x : Int)] w fun e w' => ∃ v', e = .returned v' ∧ w'.ownsRow base 5 1 v' (bs ++ short x).length (byteCells (bs ++ short x)) ∧ Below base w w' := by
  obtain ⟨i0, hi, hz0, hz1, hz2⟩ := info_parts infoByte
  have h9 := short_len9 x (by omega)
  go_enter Try.func21, Try.ntmps21
  go_wp2
  go_loopw [0, 1] (fun v y wr => ∃ (n : Nat) (l : List UInt8), y = .int .i64 n ∧ (n : Int) ≤ 9223372036854775807 ∧ Hid (bs ++ short x = l ++ short n) ∧ wr.ownsRow base 5 1 v l.length (byteCells l) ∧ Below base w wr ∧ base ≤ wr.heap.size) (fun _ y _ => (intOf y).toNat)
  case atStart => exact ⟨x, bs, rfl, hx, Lib.hid rfl, hown, Below.refl _ _, hbase⟩
  case round =>
    obtain ⟨n, l, rfl, hn, HE, hown1, hb1, hs1⟩ := hrel
    have hll : (l.length : Int) ≤ 70368744177674 := by have := congrArg List.length HE.out; simp at this; omega
    by_cases hlt : 128 ≤ n
    · have hby : IntKind.u8.wrap ((n : Int) % 128 + 128) = (n : Int) % 128 + 128 := by simp [IntKind.wrap, IntKind.bits, IntKind.signed]; omega
      go_wp2_with (at_builtin; refine wpList_append_own _ rfl _ _ 34 rfl base 5 i0 (.int .u8 0) 1 1 Try.underlying34 hi hz0 hz1 hz2 rfl (by decide) _ _ _ rfl (hown1.alloc _) ⟨wr.heap.size, 0, none⟩ 1 1 [Value.int .u8 ((n : Int) % 128 + 128)] rfl rfl ?c1 ?c2 ?c3 ?c4 ?c5 ?_)
      case c1 => exact cell_one_new _ _ _
      case c2 => intro u hu; simp at hu; subst hu; rfl
      case c3 => unfold maxLen; omega
      case c4 => omega
      case c5 => simp; omega
      intro v' w1 hown' hgrow _
      have hb2 : Below base w w1 := (hb1.alloc hs1 _).grown hgrow (by simp; omega) (fun k hk => (hown1.lt k hk).1)
      have hs2 : base ≤ w1.heap.size := by have := hb2.size; omega
      go_wp2
      go_roundw
      case rel => exact ⟨n / 128, l ++ [UInt8.ofNat (n % 128 + 128)], by go_num, by omega, Lib.hid (by rw [HE.out, short_ge n hlt (by omega)]; simp), by rw [byteCells_snoc, toNat_ofNat _ (by omega)]; simpa using hown', hb2, hs2⟩
      case measure => simp [intOf]; omega
    · have hby : IntKind.u8.wrap (n : Int) = (n : Int) := by simp [IntKind.wrap, IntKind.bits, IntKind.signed]; omega
      go_wp2_with (at_builtin; refine wpList_append_own _ rfl _ _ 34 rfl base 5 i0 (.int .u8 0) 1 1 Try.underlying34 hi hz0 hz1 hz2 rfl (by decide) _ _ _ rfl (hown1.alloc _) ⟨wr.heap.size, 0, none⟩ 1 1 [Value.int .u8 (n : Int)] rfl rfl ?d1 ?d2 ?d3 ?d4 ?d5 ?_)
      case d1 => exact cell_one_new _ _ _
      case d2 => intro u hu; simp at hu; subst hu; rfl
      case d3 => unfold maxLen; omega
      case d4 => omega
      case d5 => simp; omega
      intro v' w1 hown' hgrow _
      have hb2 : Below base w w1 := (hb1.alloc hs1 _).grown hgrow (by simp; omega) (fun k hk => (hown1.lt k hk).1)
      have HO : Hid (w1.ownsRow base 5 1 v' (bs ++ short x).length (byteCells (bs ++ short x))) := Lib.hid (by
        rw [HE.out, short_lt n (by omega), byteCells_snoc, toNat_ofNat _ (by omega)]; simpa using hown')
      clear hown'
      go_wp2
      go_ret
      exact ⟨v', rfl, HO.out, hb2⟩

/-- An error's number alone. -/
def errnoV (c : Int) : Value := .iface 46 (.int .i64 c)

set_option maxRecDepth 100000 in
set_option maxHeartbeats 1000000 in
theorem putShort_ok (x : Int) (w : World) (h0 : 0 ≤ x) (h1 : x ≤ 72057594037927935) :
    Calls Try.prog 16 #[.int .i64 x] w fun e w' => e = .returned (.tuple #[.string ⟨(short x.toNat).toArray⟩, .nilIface]) ∧ Below w.heap.size w w' := by
  obtain ⟨n, rfl⟩ := Int.eq_ofNat_of_zero_le h0
  rw [Int.toNat_natCast]
  go_enter Try.func16, Try.ntmps16
  go_wp2_with (go_at_call 21; refine (appendShort_any w.heap.size _ [] n _ (by omega) (World.ownsRow_nil _ _ _ _) (Nat.le_refl _) (by simp)).mono ?_; rintro e w1 ⟨v1, rfl, hown1, hb1⟩; refine Hid.out ?_)
  refine Lib.hid ?_
  rw [List.nil_append] at hown1
  have hpos := short_pos n
  obtain ⟨l, hl⟩ : ∃ l, l = short n := ⟨_, rfl⟩
  rw [← hl] at hown1 hpos
  have HL := Lib.hid hl
  clear hl
  rcases hown1.2 with ⟨-, h0⟩ | ⟨g, cap, cur, rfl, -, -, -, -, -, -⟩
  · omega
  · have hcv := run_convert_bytes_back (P := Try.prog) w1 34 9 5 ⟨g, 0, none⟩ cap l Try.underlying34 Try.underlying5 Try.underlying9 (fun j hj => hown1.cells (g := g) rfl j _ (by simp [byteCells, hj]))
    go_wp2
    go_ret2
    exact ⟨by rw [← HL.out]; rfl, hb1⟩

set_option maxRecDepth 100000 in
set_option maxHeartbeats 1000000 in
theorem putShort_bad (x : Int) (w : World) (h : x < 0 ∨ 72057594037927935 < x) :
    Calls Try.prog 16 #[.int .i64 x] w fun e w' => e = .returned (.tuple #[.string ⟨#[]⟩, errnoV 2]) ∧ w = w' := by
  by_cases h0 : x < 0
  · go_enter Try.func16, Try.ntmps16
    go_wp2
    go_ret2
    exact ⟨rfl, rfl⟩
  · have h1 : 72057594037927935 < x := by omega
    clear h
    go_enter Try.func16, Try.ntmps16
    go_wp2
    go_ret2
    exact ⟨rfl, rfl⟩

end Go.Proofs.Ytoggeiaofpdboaa.Oct
