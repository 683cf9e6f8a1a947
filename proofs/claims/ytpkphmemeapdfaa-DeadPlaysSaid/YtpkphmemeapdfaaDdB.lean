/- dead: worlds that hold a sink; New, Count, Total, what is no reason. -/
import Derived.Test.YtpkphmemeapdfaaDdA
namespace Go.Proofs.Ytpkphmemeapdfaa.Dd
open Go.RowKit Go.Proofs.Ytpkphmemeapdfaa Go.Maps

theorem Try.law : Keyed Try.prog 3 := int_keyed Try.underlying3
theorem Try.zeroInt (w : World) : (zeroValue 3).run Try.prog w = .ok (.int .i64 0) w := by kernel_rfl

/-- World w holds a sink at block hb, that keeps k; its counts lie in the map at mb, v is its row; all its blocks are of S; L was put. -/
structure At (w : World) (S : Nat → Prop) (hb mb k : Nat) (D : DataW Unit) (v : Value) (L : List Lr) : Prop where
  head : w.heap[hb]? = some (.cells #[.int .i64 (k : Int), .map (some mb), v] 44 (0, 0))
  map : w.ownsMap Try.prog 3 (plainElem Try.prog 3) mb L.length D
  row : w.ownsRow 0 29 3 v (kept k L).length (lrs (kept k L))
  own : ∀ g, some g = v.ownBlock → S g
  hS : S hb
  mS : S mb
  lt : ∀ q, S q → q < w.heap.size
  dat : Dat D L
  few : k ≤ 64

section
variable {w w' : World} {S T : Nat → Prop} {hb mb k : Nat} {D : DataW Unit} {v : Value} {L : List Lr}
theorem Only.grown (o : Only T w w') {b : Nat} (hb : b < w.heap.size) (hT : ¬ T b) : w'.heap[b]? = w.heap[b]? := o.block b hb hT
theorem ownsMap_keep {n : Nat} (h : w.ownsMap Try.prog 3 (plainElem (H := Unit) Try.prog 3) mb n D) (o : Only T w w') (hT : ¬ T mb) : w'.ownsMap Try.prog 3 (plainElem Try.prog 3) mb n D := by
  have hlt := h.lt
  obtain ⟨es, clock, hb, r⟩ := h
  exact ⟨es, clock, (o.block mb hlt hT).trans hb, r⟩
theorem At.keep (h : At w S hb mb k D v L) (o : Only T w w') (hT : ∀ q, S q → ¬ T q) : At w' S hb mb k D v L :=
  ⟨(o.block hb (h.lt _ h.hS) (hT _ h.hS)).trans h.head, ownsMap_keep h.map o (hT _ h.mS), own_keep h.row o (fun q hq => hT q (h.own q hq)), h.own, h.hS, h.mS, fun q hq => Nat.lt_of_lt_of_le (h.lt q hq) o.size, h.dat, h.few⟩
theorem At.nil (h : At w S hb mb k D v L) (o : Only Nil w w') : At w' S hb mb k D v L := h.keep o (fun _ _ h => h.elim)
theorem At.c0 (h : At w S hb mb k D v L) : w.cell? ⟨hb, 0, none⟩ = some (.int .i64 (k : Int)) := by simp [World.cell?, h.head]
theorem At.c1 (h : At w S hb mb k D v L) : w.cell? ⟨hb, 1, none⟩ = some (.map (some mb)) := by simp [World.cell?, h.head]
theorem At.c2 (h : At w S hb mb k D v L) : w.cell? ⟨hb, 2, none⟩ = some v := by simp [World.cell?, h.head]
theorem At.fz (h : At w S hb mb k D v L) (i : Nat) : w.frozen? ⟨hb, i, none⟩ = false := by simp [World.frozen?, h.head]
theorem At.lt_hb (h : At w S hb mb k D v L) : hb < w.heap.size := h.lt _ h.hS
theorem At.ne (h : At w S hb mb k D v L) : hb ≠ mb := by
  rintro rfl
  obtain ⟨es, clock, hm, _⟩ := h.map
  rw [h.head] at hm
  cases hm
theorem At.mne (h : At w S hb mb k D v L) (g : Nat) (hg : some g = v.ownBlock) : g ≠ mb ∧ g ≠ hb := by
  rcases h.row.2 with ⟨rfl, _⟩ | ⟨g', c, cur, rfl, _, hh, _⟩
  · simp [Value.ownBlock] at hg
  · have : g = g' := by simpa [Value.ownBlock] using hg
    subst this
    constructor
    · rintro rfl
      obtain ⟨es, clock, hm, _⟩ := h.map
      rw [hh] at hm
      cases hm
    · rintro rfl
      exact blk_ne h.head hh (by decide) rfl
theorem grown_only {row : Option Nat} (h : w.grownBy w' row) : Only (fun q => some q = row) w w' := Only.ofGrown h
end

theorem isReason_any (x : Int) (w : World) : Calls Try.prog 17 #[.int .i64 x] w fun e w' => e = .returned (.bool (right x)) ∧ w = w' := by
  by_cases h1 : 1 ≤ x
  · by_cases h2 : x ≤ 5
    · rw [(right_iff x).2 ⟨h1, h2⟩]
      go_enter Try.func17, Try.ntmps17
      go_wp2
      go_ret
      exact ⟨rfl, rfl⟩
    · rw [(right_not x).2 (by omega)]
      go_enter Try.func17, Try.ntmps17
      go_wp2
      go_ret
      exact ⟨rfl, rfl⟩
  · rw [(right_not x).2 (by omega)]
    go_enter Try.func17, Try.ntmps17
    go_wp2
    go_ret
    exact ⟨rfl, rfl⟩
theorem right_any (x : Int) (w : World) : Calls Try.prog 10 #[.int .i64 x] w fun e w' => e = .returned (.bool (right x)) ∧ w = w' := by
  by_cases h1 : 1 ≤ x
  · by_cases h2 : x ≤ 5
    · rw [(right_iff x).2 ⟨h1, h2⟩]
      go_enter Try.func10, Try.ntmps10
      go_wp2
      go_ret
      exact ⟨rfl, rfl⟩
    · rw [(right_not x).2 (by omega)]
      go_enter Try.func10, Try.ntmps10
      go_wp2
      go_ret
      exact ⟨rfl, rfl⟩
  · rw [(right_not x).2 (by omega)]
    go_enter Try.func10, Try.ntmps10
    go_wp2
    go_ret
    exact ⟨rfl, rfl⟩

theorem new_any (r : Int) (w : World) : Calls Try.prog 8 #[.int .i64 r] w fun e w' =>
    e = .returned (.pointer (some ⟨w.heap.size + 1, 0, none⟩)) ∧ At w' (fun q => q = w.heap.size ∨ q = w.heap.size + 1) (w.heap.size + 1) w.heap.size (kn r) (.map []) (.slice none 0 0) [] ∧ Only Nil w w' := by
  have hmm := @run_makeMap Try.prog
  have hk := kn_eq r
  have fin := Lib.hid (fun (x : Int) (hx : x = (kn r : Int)) => show At ((w.alloc (.map #[] 0)).alloc (.cells #[.int .i64 x, .map (some w.heap.size), .slice none 0 0] 44)) (fun q => q = w.heap.size ∨ q = w.heap.size + 1) (w.heap.size + 1) w.heap.size (kn r) (.map []) (.slice none 0 0) [] from by
    subst hx
    exact ⟨by have := heap_new (w.alloc (.map #[] 0)) (.cells #[.int .i64 (kn r : Int), .map (some w.heap.size), .slice none 0 0] 44); simpa using this,
      (World.ownsMap_made w Try.prog 3 _).alloc _, by rw [kept_nil]; exact World.ownsRow_nil _ _ _ _, fun g hg => by simp [Value.ownBlock] at hg, .inr rfl, .inl rfl, fun q hq => by simp; omega, Dat.start, kn_le r⟩)
  go_enter Try.func8, Try.ntmps8
  go_wp2
  go_ret
  refine ⟨by simp, ?_, ((Only.refl Nil w).alloc _).alloc _⟩
  exact fin.out _ (by rw [hk])

set_option maxRecDepth 100000 in
theorem put_bad {w : World} (hb : Nat) (id dst why : Int) (h : right why = false) :
    Calls Try.prog 9 #[.pointer (some ⟨hb, 0, none⟩), .int .u64 id, .int .i64 dst, .int .i64 why] w fun e w' => e = .returned (.int .i64 1) ∧ w = w' := by
  have hr := isReason_any why w
  rw [h] at hr
  have hr' := Lib.hid hr
  clear hr h
  go_enter Try.func9, Try.ntmps9
  go_wp2_with (go_at_call 17; (with_reducible refine hr'.out.mono ?_); rintro e w1 ⟨rfl, rfl⟩)
  go_ret
  exact ⟨rfl, rfl⟩

theorem count_any {w : World} {S : Nat → Prop} {hb mb k : Nat} {D : DataW Unit} {v : Value} {L : List Lr} (h : At w S hb mb k D v L) (x : Int) (hx : (Lit.int .i64 x).wf = true) :
    Calls Try.prog 11 #[.pointer (some ⟨hb, 0, none⟩), .int .i64 x] w fun e w' => e = .returned (.int .i64 (cnt L x : Nat)) ∧ w = w' := by
  have c1 := h.c1
  have hm := Lib.hid h.map
  have hc := Lib.hid (h.dat.cnt x)
  have hkey : keyOf Try.prog 3 (.int .i64 x) = some (.int .i64 x) := keyOf_int_mk Try.underlying3 hx
  clear h hx
  go_enter Try.func11, Try.ntmps11
  go_wp2_with (at_lookup; refine wpList_lookup_own_int _ rfl _ _ 42 rfl 3 3 .i64 Try.law Try.underlying42 Try.underlying3 (Try.zeroInt _) mb L.length D rfl hm.out _ _ rfl hkey ?_; intro c hat hwc)
  go_ret
  refine ⟨?_, rfl⟩
  rw [hc.out] at hat
  injection hat with hat
  injection hat with _ hat
  rw [hat]; rfl

set_option maxRecDepth 100000 in
theorem total_any {w : World} {S : Nat → Prop} {hb mb k : Nat} {D : DataW Unit} {v : Value} {L : List Lr} (h : At w S hb mb k D v L) (hL : L.length ≤ 65536) :
    Calls Try.prog 16 #[.pointer (some ⟨hb, 0, none⟩)] w fun e w' => e = .returned (.int .i64 (L.length : Nat)) ∧ Only Nil w w' := by
  have c1 := h.c1
  have hm := Lib.hid h.map
  have hd := Lib.hid h.dat
  clear h
  go_enter Try.func16, Try.ntmps16
  go_wp2_with (first
    | (at_range; refine wpList_range_own _ rfl _ 42 rfl 3 3 Try.law Try.underlying42 _ mb L.length D rfl hm.out ?_; intro w0 hrg0 hg0 hs0)
    | go_in)
  go_frame
  have g0 := Lib.hid (show Only Nil w w0 from (grown_only hg0).mono (fun q hq => by cases hq))
  have hcn := Lib.hid (fun x => Nat.le_trans (cnt_le L x) hL)
  go_loopw [3, 5] (fun s3 _ wr => ∃ (tot : Nat) (left : Lit → Bool) (cnt : Nat), s3 = .int .i64 (tot : Int) ∧ Hid (tot + rem left L = L.length) ∧ wr.ranges Try.prog 3 (plainElem Try.prog 3) mb w.heap.size L.length D left cnt ∧ Hid (Only Nil w wr))
    (fun _ _ wr => wr.rangeLeft mb w.heap.size)
  case atStart => exact ⟨0, _, _, rfl, Lib.hid (by rw [rem_start hd.out]; omega), hrg0, g0⟩
  case round =>
    obtain ⟨tot, left, cn, rfl, ht, hrg, ho⟩ := hrel
    have htl := Lib.hid (show tot ≤ 65536 by have := ht.out; omega)
    have htl' : (tot : Int) ≤ 65536 := by have := htl.out; omega
    go_wp2_with (first
      | (at_next; refine wpList_next_ranges_ii _ rfl _ rfl 3 3 .i64 .i64 Try.law Try.underlying3 Try.underlying3 mb w.heap.size L.length _ _ _ rfl hrg ?_ ?_)
      | go_in)
    · intro _ hl0
      have e0 := Lib.hid (show tot = L.length by have := ht.out; rw [rem_end L hl0] at this; omega)
      clear hl0
      go_wp2
      go_ret
      exact ⟨by rw [← e0.out]; rfl, ho.out⟩
    · intro x c w1 cnt1 hwx hwc hlx hat hrg1 hlt hg1 hs1 hen
      obtain ⟨rfl, hr⟩ := rem_step hd.out left x c hlx hat
      have hr' := Lib.hid hr
      have ho1 := Lib.hid (show Only Nil w w1 from ho.out.then (grown_only hg1) (fun q hq hlt => by cases hq; omega))
      have hc1 := hcn.out x
      have ht2 := Lib.hid (show tot + Dd.cnt L x + rem (fun z => left z && !z.sameKey (.int .i64 x)) L = L.length by have := ht.out; omega)
      clear hat hlx hr hwx hwc
      generalize Dd.cnt L x = c at *
      have hc1' : (c : Int) ≤ 65536 := by omega
      go_wp2
      go_roundw
      case rel => exact ⟨tot + c, _, cnt1, by go_num, ht2, hrg1, ho1⟩
      case measure => rw [hrg1.left_eq, hrg.left_eq]; exact hlt
end Go.Proofs.Ytpkphmemeapdfaa.Dd
