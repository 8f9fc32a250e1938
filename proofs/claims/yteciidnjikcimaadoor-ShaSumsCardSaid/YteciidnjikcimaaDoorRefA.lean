/- Contracts of the document's own answer of layer 2: numbers as digits. -/
import Derived.Test.YteciidnjikcimaaDoorRefMath
import Derived.Test.YteciidnjikcimaaDoorGoesWalk
namespace Go.Proofs.YteciidnjikcimaaDoor.Sha
open Go.RowKit Go.Lib

def iV (n : Nat) : Value := .int .i64 (n : Int)
def arrI (l : List Nat) : Array Value := (l.map iV).toArray
/-- A slice that reads as these numbers. -/
def NIn (w : World) (A : Option Addr) (l : List Nat) : Prop := VIn w A l.length (fun k => .int .i64 ((wd l k : Nat) : Int))
theorem VIn.below {w w' : World} {A : Option Addr} {n : Nat} {f : Nat → Value} (h : VIn w A n f) (hb : Below w.heap.size w w') : VIn w' A n f := fun k hk => by
  obtain ⟨b, o, e, hlt, hc⟩ := h k hk
  exact ⟨b, o, e, by have := hb.size; omega, (hb.cell (p := ⟨b, o + k, none⟩) hlt).trans hc⟩
theorem NIn.below {w w' : World} {A : Option Addr} {l : List Nat} (h : NIn w A l) (hb : Below w.heap.size w w') : NIn w' A l := VIn.below h hb
theorem arrI_get (l : List Nat) (i : Nat) (h : i < l.length) : (arrI l)[i]? = some (.int .i64 ((wd l i : Nat) : Int)) := by
  simp [arrI, wd, iV, List.getElem?_eq_getElem h]
theorem arrI_set (l : List Nat) (i n : Nat) : (arrI l).setIfInBounds i (.int .i64 (n : Int)) = arrI (l.set i n) := by
  simp [arrI, List.map_set, iV]
theorem nin_row {w : World} {g : Nat} {t : TypeId} {l : List Nat} (h : Row w g t (arrI l)) : NIn w (some ⟨g, 0, none⟩) l := fun k hk =>
  ⟨g, 0, rfl, h.lt, by rw [Nat.zero_add, h.cell k, arrI_get l k hk]⟩
/-- A slice of these numbers is answered; nothing old has turned. -/
def RetI (w : World) (l : List Nat) (e : Ending) (w' : World) : Prop := ∃ A c, e = .returned (.slice A l.length c) ∧ NIn w' A l ∧ Below w.heap.size w w' ∧ (∀ b o, A = some ⟨b, o, none⟩ → w.heap.size ≤ b)
theorem infoI : (Tryd.prog.info? 3).map (fun i => (i.zero, i.size, i.bytes)) = some (some (.int .i64 0), 1, 8) := by kernel_rfl

set_option maxRecDepth 100000 in
set_option maxHeartbeats 400000 in
theorem big_any (x : Nat) (w : World) (hx : x < 281474976710656) :
    Calls Tryd.prog 30 #[.int .i64 (x : Int)] w (RetI w (bigL x)) := by
  go_enter Tryd.func30, Tryd.ntmps30
  go_wp2
  go_ret
  refine ⟨some ⟨w.heap.size, 0, none⟩, 3, rfl, nin_row (t := 3) ?_, (Below.refl _ _).alloc (Nat.le_refl _) _, fun b o e => by cases e; exact Nat.le_refl _⟩
  exact heap_alloc_new _ _

set_option maxRecDepth 100000 in
set_option maxHeartbeats 1000000 in
theorem product_any (a b : List Nat) (A B : Option Addr) (ca cb : Nat) (w : World) (da : Dig a) (db : Dig b) (hA : NIn w A a) (hB : NIn w B b) (la : a.length ≤ 20) (lb : b.length ≤ 20) :
    Calls Tryd.prog 29 #[.slice A a.length ca, .slice B b.length cb] w fun e w' => ∃ o, Hid (o.length = a.length + b.length + 1) ∧ Hid (Dig o) ∧ Hid (val o = val a * val b) ∧ RetI w o e w' := by
  obtain ⟨i0, hi, hz0, hz1, hz2⟩ := info_parts infoI
  have HA := Lib.hid hA
  have HB := Lib.hid hB
  have DA := Lib.hid da
  have DB := Lib.hid db
  obtain ⟨n, hn⟩ : ∃ n, a.length + b.length + 1 = n := ⟨_, rfl⟩
  have hmk : (Instr.makeSlice 32 (.int .i64 ((a.length : Int) + (b.length : Int) + 1)) (.int .i64 ((a.length : Int) + (b.length : Int) + 1))).run Tryd.prog w = .ok (.slice (some ⟨w.heap.size, 0, none⟩) n n) (w.alloc (.cells (madeCells #[.int .i64 0] n) 3)) := by
    have h := run_make (P := Tryd.prog) w 32 3 i0 (.int .i64 0) Tryd.underlying32 hi hz0 .i64 .i64 ((a.length : Int) + (b.length : Int) + 1) ((a.length : Int) + (b.length : Int) + 1) (by omega) (by omega) (by rw [hz2]; omega) (by omega)
    rw [hz1, show ((a.length : Int) + (b.length : Int) + 1).toNat = n by omega, Nat.mul_one] at h
    exact h
  have HR0 : Hid (Row (w.alloc (.cells (madeCells #[.int .i64 0] n) 3)) w.heap.size 3 (arrI (List.replicate n 0))) := Lib.hid (by
    have e : madeCells #[.int .i64 0] n = arrI (List.replicate n 0) := by
      have := made_list (.int .i64 0) n
      apply Array.ext'
      rw [this]; simp [arrI, iV]
    rw [← e]; exact heap_alloc_new _ _)
  have HN := Lib.hid hn
  clear hA hB da db hn
  go_enter Tryd.func29, Tryd.ntmps29
  go_wp2
  clear hmk
  go_loopw [6] (fun x wr => ∃ (i : Nat) (o : List Nat), i ≤ a.length ∧ x = .int .i64 i ∧ Hid (Out a b o i) ∧ Hid (Row wr w.heap.size 3 (arrI o)) ∧ Hid (Below w.heap.size w wr)) (fun x _ => a.length - (intOf x).toNat)
  case atStart => exact ⟨0, List.replicate n 0, by omega, rfl, Lib.hid (by rw [← HN.out]; exact out_start a b), HR0, Lib.hid ((Below.refl _ _).alloc (Nat.le_refl _) _)⟩
  case round =>
    clear HR0
    obtain ⟨i, o0, hi2, rfl, HO, HR, HBl⟩ := hrel
    by_cases hlt : i < a.length
    · obtain ⟨ba, oa, rfl, hba, hca0⟩ := HA.out i hlt
      obtain ⟨ai, hai⟩ : ∃ x, wd a i = x := ⟨_, rfl⟩
      have hai16 : ai < 65536 := by rw [← hai]; exact DA.out i
      simp only [hai] at hca0
      have HAI := Lib.hid hai
      have HCA := Lib.hid hca0
      clear hai hca0
      go_wp2
      go_loopw [7, 8] (fun y x wr => ∃ (k c : Nat) (o : List Nat), i + k ≤ n ∧ c < 65536 ∧ x = .int .i64 k ∧ y = .int .i64 c ∧ Hid (Inn a b o0 o i k c) ∧ Hid (Row wr w.heap.size 3 (arrI o)) ∧ Hid (Below w.heap.size w wr)) (fun _ x _ => n + 1 - (intOf x).toNat)
      case atStart => exact ⟨0, 0, o0, by have := HN.out; omega, by omega, rfl, rfl, Lib.hid (inn_start a b o0 i HO.out), HR, HBl⟩
      case round =>
        clear HR HBl
        obtain ⟨k, c, o, hik, hc, rfl, rfl, HI, HR, HBl⟩ := hrel
        have hn41 : n ≤ 41 := by have := HN.out; omega
        have hca : wr.cell? ⟨ba, oa + i, none⟩ = some (.int .i64 (ai : Int)) := (HBl.out.cell (p := ⟨ba, oa + i, none⟩) hba).trans HCA.out
        by_cases hkb : k < b.length
        · have hikn : i + k < n := by have := HN.out; omega
          obtain ⟨bb, ob, rfl, hbb, hcb0⟩ := HB.out k hkb
          obtain ⟨y, hy⟩ : ∃ x, wd b k = x := ⟨_, rfl⟩
          have hy16 : y < 65536 := by rw [← hy]; exact DB.out k
          have hcb : wr.cell? ⟨bb, ob + k, none⟩ = some (.int .i64 (y : Int)) := (HBl.out.cell (p := ⟨bb, ob + k, none⟩) hbb).trans (by rw [← hy]; exact hcb0)
          obtain ⟨x, hx⟩ : ∃ x, wd o (i + k) = x := ⟨_, rfl⟩
          have hx16 : x < 65536 := by rw [← hx]; exact HI.out.dig _
          have hlo : i + k < o.length := by rw [HI.out.len, HN.out]; exact hikn
          have hco : wr.cell? ⟨w.heap.size, i + k, none⟩ = some (.int .i64 (x : Int)) := by rw [HR.out.cell (i + k), arrI_get o _ hlo, hx]
          have hfo := HR.out.frozen (i + k)
          have HS := Lib.hid (inn_step a b o0 o i k c HI.out DA.out DB.out hlo)
          rw [hx, hy, HAI.out] at HS
          obtain ⟨m, hm⟩ : ∃ m, ai * y = m := ⟨_, rfl⟩
          rw [hm] at HS
          have hmb : m < 4294967296 := by have := HS.out.2; omega
          have hmi : (ai : Int) * (y : Int) = (m : Int) := by rw [← hm, Int.natCast_mul]
          clear hcb0 hx hy hm
          have q1 : IntKind.i64.wrap ((i : Int) + (k : Int)) = (i : Int) + (k : Int) := IntWalk.i64_in _ (by omega)
          have q2 : ((i : Int) + (k : Int)).toNat = i + k := by omega
          have q3 : 0 ≤ (i : Int) + (k : Int) := by omega
          have q4 : (i : Int) + (k : Int) < (n : Int) := by omega
          have q5 : IntKind.i64.wrap ((c : Int) + (x : Int)) = (c : Int) + (x : Int) := IntWalk.i64_in _ (by omega)
          have q6 : IntKind.i64.wrap (m : Int) = (m : Int) := IntWalk.i64_in _ (by omega)
          have q7 : IntKind.i64.wrap ((c : Int) + (x : Int) + (m : Int)) = (c : Int) + (x : Int) + (m : Int) := IntWalk.i64_in _ (by omega)
          have q8 : (i : Int) < (a.length : Int) := by omega
          go_wp2
          go_quiet (fail)
          clear q1 q5 q6 q7 hmi
          have hc2 : (wr.drewN nq).cell? ⟨w.heap.size, i + k, none⟩ = some (.int .i64 (x : Int)) := hco
          have hf2 : (wr.drewN nq).frozen? ⟨w.heap.size, i + k, none⟩ = false := hfo
          have HR2 : Hid (Row (wr.drewN nq) w.heap.size 3 (arrI o)) := HR
          have HBl2 := Lib.hid (below_draws HBl.out nq)
          obtain ⟨v2, hv2⟩ : ∃ v, wr.drewN nq = v := ⟨_, rfl⟩
          rw [hv2] at hc2 hf2 HR2 HBl2 ⊢
          clear hv2 HR HBl hca hcb hco hfo
          go_wp2
          go_roundw
          case rel =>
            refine ⟨k + 1, (c + x + m) / 65536, o.set (i + k) ((c + x + m) % 65536), by omega, by have := HS.out.2; omega, by go_num, by go_num, Lib.hid HS.out.1, Lib.hid ?_, Lib.hid (HBl2.out.setCell (Nat.le_refl _) _)⟩
            have h := HR2.out.set (i + k) (.int .i64 (((c + x + m) % 65536 : Nat) : Int))
            rw [arrI_set] at h
            exact h
          case measure => simp [intOf]; omega
        · by_cases hc0 : 0 < c
          · have hikn : i + k < n := by have := HN.out; have := inn_room a b o0 o i k c HO.out HI.out DA.out DB.out hlt hc0 (by omega); omega
            obtain ⟨x, hx⟩ : ∃ x, wd o (i + k) = x := ⟨_, rfl⟩
            have hx16 : x < 65536 := by rw [← hx]; exact HI.out.dig _
            have hlo : i + k < o.length := by rw [HI.out.len, HN.out]; exact hikn
            have hco : wr.cell? ⟨w.heap.size, i + k, none⟩ = some (.int .i64 (x : Int)) := by rw [HR.out.cell (i + k), arrI_get o _ hlo, hx]
            have hfo := HR.out.frozen (i + k)
            have HS := Lib.hid (inn_step a b o0 o i k c HI.out DA.out DB.out hlo)
            rw [hx, wd_out b k (by omega), Nat.mul_zero, Nat.add_zero] at HS
            clear hx
            have hkbi : ¬ (k : Int) < (b.length : Int) := by omega
            have hkbd : decide ((k : Int) < (b.length : Int)) = false := decide_eq_false hkbi
            have hkbd2 : decide (k < b.length) = false := decide_eq_false hkb
            have q1 : IntKind.i64.wrap ((i : Int) + (k : Int)) = (i : Int) + (k : Int) := IntWalk.i64_in _ (by omega)
            have q2 : ((i : Int) + (k : Int)).toNat = i + k := by omega
            have q3 : 0 ≤ (i : Int) + (k : Int) := by omega
            have q4 : (i : Int) + (k : Int) < (n : Int) := by omega
            have q5 : IntKind.i64.wrap ((c : Int) + (x : Int)) = (c : Int) + (x : Int) := IntWalk.i64_in _ (by omega)
            have q8 : (i : Int) < (a.length : Int) := by omega
            have q9 : IntKind.i64.wrap 0 = 0 := by decide
            go_wp2
            go_quiet (fail)
            clear q1 q5 q9
            have hc2 : (wr.drewN nq).cell? ⟨w.heap.size, i + k, none⟩ = some (.int .i64 (x : Int)) := hco
            have hf2 : (wr.drewN nq).frozen? ⟨w.heap.size, i + k, none⟩ = false := hfo
            have HR2 : Hid (Row (wr.drewN nq) w.heap.size 3 (arrI o)) := HR
            have HBl2 := Lib.hid (below_draws HBl.out nq)
            obtain ⟨v2, hv2⟩ : ∃ v, wr.drewN nq = v := ⟨_, rfl⟩
            rw [hv2] at hc2 hf2 HR2 HBl2 ⊢
            clear hv2 HR HBl hca hco hfo
            go_wp2
            go_roundw
            case rel =>
              refine ⟨k + 1, (c + x) / 65536, o.set (i + k) ((c + x) % 65536), by omega, by have := HS.out.2; omega, by go_num, by go_num, Lib.hid HS.out.1, Lib.hid ?_, Lib.hid (HBl2.out.setCell (Nat.le_refl _) _)⟩
              have h := HR2.out.set (i + k) (.int .i64 (((c + x) % 65536 : Nat) : Int))
              rw [arrI_set] at h
              exact h
            case measure => simp [intOf]; omega
          · have hcz : c = 0 := by omega
            subst hcz
            have HO2 := Lib.hid (out_step a b o0 o i k HO.out HI.out (by omega))
            have hkbi : ¬ (k : Int) < (b.length : Int) := by omega
            have hkbd : decide ((k : Int) < (b.length : Int)) = false := decide_eq_false hkbi
            have hkbd2 : decide (k < b.length) = false := decide_eq_false hkb
            go_wp2
            go_roundw
            case rel => exact ⟨i + 1, o, by omega, by go_num, HO2, HR, HBl⟩
            case measure => simp [intOf]; omega
    · have hie : i = a.length := by omega
      subst hie
      go_wp2
      go_ret
      refine ⟨o0, Lib.hid HO.out.len, Lib.hid HO.out.dig, Lib.hid (out_end a b o0 HO.out), some ⟨w.heap.size, 0, none⟩, n, ?_, nin_row HR.out, HBl.out, fun b o e => by cases e; exact Nat.le_refl _⟩
      rw [HO.out.len, HN.out]; rfl

end Go.Proofs.YteciidnjikcimaaDoor.Sha
