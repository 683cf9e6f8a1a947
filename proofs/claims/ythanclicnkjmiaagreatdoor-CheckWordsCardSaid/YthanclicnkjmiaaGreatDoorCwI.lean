/- check: numerals (cut out of the elder layers). -/
import Derived.Test.YthanclicnkjmiaaGreatDoorCwA
import Derived.WalkKit
import Derived.WalkSpells
import Derived.WalkLawsBesides
import Derived.OneCell
import Derived.BigQuiet
import Derived.Deep.QuietTactic
import Derived.Outline
import Derived.Lib.Hide
import Derived.Deep.OwnRows
import Derived.Laws.CopyOwn
import Derived.Laws.AppendOwnNone
import Derived.Laws.Externs
import Derived.Laws.NewBlocks
import Derived.Lib.MinMax
import Derived.Lib.Walk
import Derived.LoopTactic
import Derived.RegionTactic
import Derived.BigRegion
import Derived.Deep.RegionLaw
import Derived.Deep.RegionHeld3
import Derived.OwnWalk
import Derived.Deep.DeepCutAuto
import Derived.Lib.SlTrimSet
import Derived.Lib.IndexLaws
import Derived.Lib.ParseIntB
import Derived.Shelf.Strings.SlTrimAscii
import Derived.Shelf.Strconv.Clone
import Derived.Shelf.Strings.Search2
import Derived.Shelf.Strings.Prefix
import Derived.Shelf.Pu.ParseUintPublic10
import Derived.Laws.RangeString
import Derived.Laws.RangeAny
import Derived.Shelf.Abstract
import Derived.Lib.AppendZerosOnto
import Derived.LaidEql
import Derived.Stop.Asserts
import Derived.RowKitTokens
import Derived.Recover
import Derived.Defers
import Derived.Laws.Pointers
import Derived.Laws.BytesArg
import Derived.Laws.IdiomStrings
import Derived.Laws.Concat
import Derived.Lib.OthersKept
import Derived.Laws.EntriesVeiled
import Derived.Laws.StructEq
import Derived.Shelf.Strconv.Itoa3
import Derived.Lib.AppendStr
import Derived.Lib.UnsafeStr
import Derived.Lib.Builder
import Derived.Lib.ItoaLen
namespace Go.Proofs.YthanclicnkjmiaaGreatDoor.Lx
open Go.RowKit Go.Proofs.YthanclicnkjmiaaGreatDoor
theorem vl_c (a : Nat) (c : UInt8) (r : List UInt8) : vl a (c :: r) = vl (a * 10 + (c.toNat - 48)) r := by unfold vl; rw [List.foldl_cons]
end Go.Proofs.YthanclicnkjmiaaGreatDoor.Lx
namespace Go.Proofs.YthanclicnkjmiaaGreatDoor.Lx
open Go.RowKit Go.Proofs.YthanclicnkjmiaaGreatDoor
theorem bs_append (a b : List UInt8) : bs a ++ bs b = bs (a ++ b) := by
  have : (bs a ++ bs b).data.toList = a ++ b := by simp [bs]
  rw [← this, bs_of]
theorem vl_split (l : List UInt8) (a : Nat) : vl a l = a * 10 ^ l.length + vl 0 l := by
  induction l generalizing a with
  | nil => simp [vl]
  | cons c r ih =>
    rw [vl_c, ih, vl_c, ih (0 * 10 + (c.toNat - 48)), List.length_cons, Nat.pow_succ]
    simp only [Nat.zero_mul, Nat.zero_add, Nat.add_mul]
    rw [Nat.mul_assoc, Nat.mul_comm 10, Nat.add_assoc]
end Go.Proofs.YthanclicnkjmiaaGreatDoor.Lx
namespace Go.Proofs.YthanclicnkjmiaaGreatDoor.Lx
open Go.RowKit Go.Proofs.YthanclicnkjmiaaGreatDoor
def dg (m : Nat) : UInt8 := UInt8.ofNat (48 + m % 10)
theorem dg_nat (m : Nat) : (dg m).toNat = 48 + m % 10 := by
  unfold dg
  show (48 + m % 10) % 256 = 48 + m % 10
  omega
theorem dg_di (m : Nat) : isDi (dg m) = true := by
  unfold isDi
  rw [dg_nat]
  simp; omega
theorem dg_conv (m : Nat) (w : World) : (convert 102 9 (.slice (some ⟨w.heap.size, 0, none⟩) 1 1)).run Tryz.prog (w.alloc (.cells #[.int .u8 (48 + (m : Int) % 10)] 5)) = .ok (.string (bs [dg m])) (w.alloc (.cells #[.int .u8 (48 + (m : Int) % 10)] 5)) := by
  have h := run_convert_bytes_back (P := Tryz.prog) (w.alloc (.cells #[.int .u8 (48 + (m : Int) % 10)] 5)) 102 9 5 ⟨w.heap.size, 0, none⟩ 1 [dg m] Tryz.underlying102 Tryz.underlying5 Tryz.underlying9 (fun j hj => by
    have h0 : j = 0 := by simpa using hj
    subst h0
    have hb := heap_new w (.cells #[.int .u8 (48 + (m : Int) % 10)] 5)
    rw [add_lit0]
    simp only [World.cell?, hb]
    have e : (([dg m] : List UInt8)[0].toNat : Int) = 48 + (m : Int) % 10 := by
      show ((dg m).toNat : Int) = _
      rw [dg_nat]; omega
    rw [e]; rfl)
  exact h
theorem str_add (a b : List UInt8) (h : a.length + b.length ≤ 100000) (w : World) : (Op.stringOp .add (bs a) (bs b)).run Tryz.prog w = .ok (.string (bs (a ++ b))) w := by
  have := run_string_add_sum (P := Tryz.prog) w (bs a) (bs b) (by rw [bs_size, bs_size]; omega)
  rw [bs_append] at this
  exact this

end Go.Proofs.YthanclicnkjmiaaGreatDoor.Lx
namespace Go.Proofs.YthanclicnkjmiaaGreatDoor.Lx
open Go.RowKit Go.Proofs.YthanclicnkjmiaaGreatDoor Go.Shelf
def Tryz.itl_ren : Go.Shelf.Ren := ⟨fun | 171 => 42 | 243 => 72 | 246 => 109 | 283 => 149 | 284 => 150 | 285 => 151 | 286 => 152 | 129 => 184 | 317 => 183 | 318 => 185 | 319 => 186 | 320 => 187 | 337 => 220 | 338 => 221 | n => n, fun | 3 => 3 | 9 => 9 | 2 => 2 | 4 => 4 | 171 => 210 | 0 => 0 | 53 => 190 | 37 => 102 | 5 => 5 | 173 => 213 | 212 => 238 | 51 => 239 | 20 => 20 | 213 => 240 | 46 => 241 | 232 => 278 | 233 => 279 | n => n, fun | 17 => 1 | 18 => 7 | 19 => 8 | n => n⟩
theorem Tryz.itl : LaysM.n171 Tryz.prog Tryz.itl_ren where
  mixed := by kernel_rfl
  f129 := Tryz.func184.trans (congrArg some (by kernel_rfl))
  f171 := Tryz.func42.trans (congrArg some (by kernel_rfl))
  f243 := Tryz.func72.trans (congrArg some (by kernel_rfl))
  f246 := Tryz.func109.trans (congrArg some (by kernel_rfl))
  f283 := Tryz.func149.trans (congrArg some (by kernel_rfl))
  f284 := Tryz.func150.trans (congrArg some (by kernel_rfl))
  f285 := Tryz.func151.trans (congrArg some (by kernel_rfl))
  f286 := Tryz.func152.trans (congrArg some (by kernel_rfl))
  f317 := Tryz.func183.trans (congrArg some (by kernel_rfl))
  f318 := Tryz.func185.trans (congrArg some (by kernel_rfl))
  f319 := Tryz.func186.trans (congrArg some (by kernel_rfl))
  f320 := Tryz.func187.trans (congrArg some (by kernel_rfl))
  f337 := Tryz.func220.trans (congrArg some (by kernel_rfl))
  f338 := Tryz.func221.trans (congrArg some (by kernel_rfl))
  t0 := Tryz.underlying0
  a0 := Tryz.isAgg0
  z0 := Tryz.sizeOf0
  v0 := Tryz.zeroValue0
  t2 := Tryz.underlying2
  a2 := Tryz.isAgg2
  z2 := Tryz.sizeOf2
  v2 := Tryz.zeroValue2
  t3 := Tryz.underlying3
  a3 := Tryz.isAgg3
  z3 := Tryz.sizeOf3
  v3 := Tryz.zeroValue3
  t4 := Tryz.underlying4
  a4 := Tryz.isAgg4
  z4 := Tryz.sizeOf4
  v4 := Tryz.zeroValue4
  t5 := Tryz.underlying5
  a5 := Tryz.isAgg5
  z5 := Tryz.sizeOf5
  v5 := Tryz.zeroValue5
  t9 := Tryz.underlying9
  a9 := Tryz.isAgg9
  z9 := Tryz.sizeOf9
  v9 := Tryz.zeroValue9
  t20 := Tryz.underlying20
  a20 := Tryz.isAgg20
  z20 := Tryz.sizeOf20
  v20 := Tryz.zeroValue20
  t37 := Tryz.underlying102
  a37 := Tryz.isAgg102
  z37 := Tryz.sizeOf102
  v37 := Tryz.zeroValue102
  t46 := Tryz.underlying241
  a46 := Tryz.isAgg241
  z46 := Tryz.sizeOf241
  v46 := Tryz.zeroValue241
  t51 := Tryz.underlying239
  a51 := Tryz.isAgg239
  z51 := Tryz.sizeOf239
  v51 := Tryz.zeroValue239
  t53 := Tryz.underlying190
  a53 := Tryz.isAgg190
  z53 := Tryz.sizeOf190
  v53 := Tryz.zeroValue190
  t171 := Tryz.underlying210
  a171 := Tryz.isAgg210
  z171 := Tryz.sizeOf210
  v171 := Tryz.zeroValue210
  t173 := Tryz.underlying213
  a173 := Tryz.isAgg213
  z173 := Tryz.sizeOf213
  v173 := Tryz.zeroValue213
  t212 := Tryz.underlying238
  a212 := Tryz.isAgg238
  z212 := Tryz.sizeOf238
  v212 := Tryz.zeroValue238
  t213 := Tryz.underlying240
  a213 := Tryz.isAgg240
  z213 := Tryz.sizeOf240
  t232 := Tryz.underlying278
  a232 := Tryz.isAgg278
  z232 := Tryz.sizeOf278
  v232 := Tryz.zeroValue278
  t233 := Tryz.underlying279
  a233 := Tryz.isAgg279
  z233 := Tryz.sizeOf279
  v233 := Tryz.zeroValue279
  g17 := by kernel_rfl
  g18 := by kernel_rfl
  g19 := by kernel_rfl
  i0 := by kernel_rfl
  i2 := by kernel_rfl
  i3 := by kernel_rfl
  i4 := by kernel_rfl
  i5 := by kernel_rfl
  i9 := by kernel_rfl
  i20 := by kernel_rfl
  i37 := by kernel_rfl
  i46 := by kernel_rfl
  i51 := by kernel_rfl
  i53 := by kernel_rfl
  i171 := by kernel_rfl
  i173 := by kernel_rfl
  i212 := by kernel_rfl
  i232 := by kernel_rfl
  i233 := by kernel_rfl
  m17 := by kernel_rfl
  m18 := by kernel_rfl
  m19 := by kernel_rfl

end Go.Proofs.YthanclicnkjmiaaGreatDoor.Lx
set_option linter.unusedVariables false
namespace Go.Proofs.YthanclicnkjmiaaGreatDoor.Ps
open Go.RowKit Go.Proofs.YthanclicnkjmiaaGreatDoor Lx
def Tab (w : World) : Prop := Lib.TabIs Tryz.prog w "internal/strconv.uint64pow10" .u64 Lib.pow10Tab
theorem Tab.keep {w w' : World} (h : Tab w) (o : Only Nil w w') : Tab w' := by
  have gn : Tryz.prog.globalNamed "internal/strconv.uint64pow10" = some 1 := by kernel_rfl
  unfold Tab Lib.TabIs World.var? at h ⊢
  rw [gn] at h ⊢
  simp only [Option.bind_some] at h ⊢
  have hlt : 1 < w.heap.size := by
    rcases Nat.lt_or_ge 1 w.heap.size with hh | hh
    · exact hh
    · rw [Array.getElem?_eq_none hh] at h; cases h
  rw [o.block _ hlt (fun q => q.elim)]
  exact h
theorem itoa_any (n : Int) (h : inW n) (w : World) (T : Tab w) : Calls Tryz.prog 42 #[.int .i64 n] w fun e w' => e = .returned (.string (bs (Lib.itoa n))) ∧ Only Nil w w' :=
  (Go.Proofs.Any.strconv_Itoa Tryz.itl n h.1 h.2 w T).mono fun e w' ⟨h1, k, os, h2⟩ => ⟨h1, by
    subst h2
    refine ⟨rfl, rfl, rfl, ?_, fun i hi _ => ?_⟩
    · show w.heap.size ≤ (w.heap ++ os).size
      simp
    · show (w.heap ++ os)[i]? = w.heap[i]?
      rw [Array.getElem?_append_left hi]⟩

end Go.Proofs.YthanclicnkjmiaaGreatDoor.Ps
namespace Go.Proofs.YthanclicnkjmiaaGreatDoor.Lx
open Go.RowKit Go.Proofs.YthanclicnkjmiaaGreatDoor
set_option maxRecDepth 100000 in
set_option maxHeartbeats 1000000 in
theorem decimal_itoa (n : Nat) (hn : n < 9223372036854775808) (w : World) : Calls Tryz.prog 19 #[.int .i64 n] w fun e w' => e = .returned (.string (bs (Lib.itoa (n : Int)))) ∧ Only Nil w w' := by
  have HN := Lib.hid hn
  clear hn
  go_enter Tryz.func19, Tryz.ntmps19
  go_wp2
  go_loopw [0, 3, 4] (fun s0 s3 s4 wr => ∃ (m i : Nat) (D : List UInt8), s0 = .int .i64 (m : Int) ∧ s3 = .string (bs D) ∧ s4 = .int .i64 (i : Int) ∧ D.length = i ∧ i ≤ 19 ∧ (m : Int) ≤ 9223372036854775807 ∧ Hid (n = m * 10 ^ i + vl 0 D ∧ D.all isDi = true ∧ (1 ≤ m ∨ i = 0) ∧ Lib.decDigits n = Lib.decDigits m ++ D) ∧ Only Nil w wr)
    (fun _ _ s4 _ => 20 - (intOf s4).toNat)
  case atStart => exact ⟨n, 0, [], rfl, rfl, rfl, rfl, by omega, by have := HN.out; omega, Lib.hid ⟨by simp [vl], rfl, Or.inr rfl, by simp⟩, Only.refl _ _⟩
  case round =>
    obtain ⟨m, i, D, rfl, rfl, rfl, hD, hi, hm, hH, o⟩ := hrel
    have HD := Lib.hid hD
    clear hD
    have hi' : (i : Int) < 20 := by omega
    have hcv := dg_conv m wr
    have hadd := fun w => str_add [dg m] D (by rw [HD.out]; simp; omega) w
    have oA : Only Nil w (wr.alloc (.cells #[.int .u8 (48 + (m : Int) % 10)] 5)) := o.alloc _
    have e1 : n = (m / 10) * 10 ^ (i + 1) + vl 0 (dg m :: D) := by
      rw [vl_c, vl_split, HD.out, dg_nat, hH.out.1, Nat.pow_succ]
      have h1 : m = m / 10 * 10 + m % 10 := by omega
      have h2 : 0 * 10 + (48 + m % 10 - 48) = m % 10 := by omega
      rw [h2, ← Nat.add_assoc, Nat.mul_comm (10 ^ i) 10, ← Nat.mul_assoc, ← Nat.add_mul, ← h1]
    have e2 : (dg m :: D).all isDi = true := by rw [List.all_cons, dg_di, hH.out.2.1]; rfl
    have hq : (m : Int) / 10 = ((m / 10 : Nat) : Int) := by omega
    have H1 := Lib.hid e1
    have H2 := Lib.hid e2
    have HO := Lib.hid oA
    clear e1 e2 oA
    by_cases hz : m / 10 = 0
    · have hz' : ((m : Int) / 10 == 0) = true := by rw [hq, hz]; rfl
      have HZ := Lib.hid hz
      clear hz hq
      go_wp2
      go_ret
      refine ⟨?_, HO.out⟩
      have hd : Lib.decDigits m = [dg m] := by
        have hm : m < 10 := by have := HZ.out; omega
        rw [Lib.decDigits, dif_pos hm]
        unfold dg; rw [Nat.mod_eq_of_lt hm]
      have he : Lib.itoa (n : Int) = dg m :: D := by
        rw [Lib.itoa_nonneg, hH.out.2.2.2, hd]; rfl
      rw [he]; rfl
    · have hz' : ((m : Int) / 10 == 0) = false := by rw [hq, beq_eq_false_iff_ne]; omega
      have HZ := Lib.hid hz
      have HQ := Lib.hid hq
      clear hz hq
      go_wp2
      have hi18 : i + 1 ≤ 19 := by
        rcases Nat.lt_or_ge i 19 with h | h
        · omega
        · exfalso
          obtain rfl : i = 19 := by omega
          have h1 := H1.out
          have h2 := HN.out
          have h3 := HZ.out
          have h4 : 1 * 10 ^ (19 + 1) ≤ m / 10 * 10 ^ (19 + 1) := Nat.mul_le_mul_right _ (by omega)
          omega
      go_roundw
      case rel =>
        exact ⟨m / 10, i + 1, dg m :: D, by rw [← HQ.out], rfl, by go_num, by rw [List.length_cons, HD.out], hi18, by omega, Lib.hid ⟨H1.out, H2.out, Or.inl (by have := HZ.out; omega), by
          rw [hH.out.2.2.2, Lib.decDigits, dif_neg (by have := HZ.out; omega), List.append_assoc]; rfl⟩, HO.out⟩
      case measure => simp [intOf]; omega
end Go.Proofs.YthanclicnkjmiaaGreatDoor.Lx
