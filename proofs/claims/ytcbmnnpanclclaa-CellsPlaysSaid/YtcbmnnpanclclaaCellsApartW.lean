/- CellsApart answers true for every slice of numbers and every operation, and turns nothing that there was: the walk. -/
import Derived.Test.YtcbmnnpanclclaaCellsF
namespace Go.Proofs.Ytcbmnnpanclclaa
open Go.RowKit

/-- L' is L but for the cell I. -/
structure But (L L' : List Int) (I : Int) : Prop where
  len : L'.length = L.length
  at_ : ∀ j : Nat, (j : Int) ≠ I → L'.getD j 0 = L.getD j 0
theorem But.refl (L : List Int) (I : Int) : But L L I := ⟨rfl, fun _ _ => rfl⟩
theorem But.set (L : List Int) (i : Nat) (v : Int) : But L (L.set i v) i := ⟨by simp, fun j hj => by
  have : i ≠ j := fun e => hj (by rw [e])
  simp [List.getD_eq_getElem?_getD, this]⟩

/-- What one operation on cell I leaves. -/
structure Done (hb rb : Nat) (L : List Int) (I : Int) (w w' : World) : Prop where
  mem : ∃ L' t, But L L' I ∧ MemAt w' hb rb L' t
  only : Only (Blk hb rb) w w'
def SomeDone (hb rb : Nat) (L : List Int) (I : Int) (w : World) (e : Ending) (w' : World) : Prop := ∃ v, e = .returned v ∧ Done hb rb L I w w'

section
variable {w : World} {hb rb : Nat} {L : List Int} {t : Int}
theorem out_or_in (L : List Int) (I : Int) : (I < 0 ∨ (L.length : Int) ≤ I) ∨ ∃ i : Nat, I = (i : Int) ∧ i < L.length := by
  by_cases h : I < 0 ∨ (L.length : Int) ≤ I
  · exact .inl h
  · exact .inr ⟨I.toNat, by omega, by omega⟩
theorem ap_load (h : MemAt w hb rb L t) (I : Int) (t0 : 0 ≤ t) (t1 : t < 4611686018427387904) : Calls Try.prog 14 #[.pointer (some ⟨hb, 0, none⟩), .int .i64 I] w (SomeDone hb rb L I w) := by
  rcases out_or_in L I with hi | ⟨i, rfl, hi⟩
  · exact (load_no h I hi).mono fun e w' ⟨a, b⟩ => ⟨_, a, b ▸ ⟨⟨L, t, But.refl _ _, h⟩, Only.refl _ _⟩⟩
  · exact (load_yes h i hi t0 t1).mono fun e w' ⟨a, b, c⟩ => ⟨_, a, ⟨L, t + 1, But.refl _ _, b⟩, c⟩
theorem ap_store (h : MemAt w hb rb L t) (I v : Int) (t0 : 0 ≤ t) (t1 : t < 4611686018427387904) : Calls Try.prog 15 #[.pointer (some ⟨hb, 0, none⟩), .int .i64 I, .int .u64 v] w (SomeDone hb rb L I w) := by
  rcases out_or_in L I with hi | ⟨i, rfl, hi⟩
  · exact (store_no h I v hi).mono fun e w' ⟨a, b⟩ => ⟨_, a, b ▸ ⟨⟨L, t, But.refl _ _, h⟩, Only.refl _ _⟩⟩
  · exact (store_yes h i v hi t0 t1).mono fun e w' ⟨a, b, c⟩ => ⟨_, a, ⟨_, t + 1, But.set _ _ _, b⟩, c⟩
theorem ap_swap (h : MemAt w hb rb L t) (I o v : Int) (t0 : 0 ≤ t) (t1 : t < 4611686018427387904) : Calls Try.prog 16 #[.pointer (some ⟨hb, 0, none⟩), .int .i64 I, .int .u64 o, .int .u64 v] w (SomeDone hb rb L I w) := by
  rcases out_or_in L I with hi | ⟨i, rfl, hi⟩
  · exact (swap_no h I o v hi).mono fun e w' ⟨a, b⟩ => ⟨_, a, b ▸ ⟨⟨L, t, But.refl _ _, h⟩, Only.refl _ _⟩⟩
  · by_cases e : L.getD i 0 = o
    · exact (swap_done h i o v hi e t0 t1).mono fun e w' ⟨a, b, c⟩ => ⟨_, a, ⟨_, t + 1, But.set _ _ _, b⟩, c⟩
    · exact (swap_not h i o v hi (by simpa using e) t0 t1).mono fun e w' ⟨a, b, c⟩ => ⟨_, a, ⟨L, t + 1, But.refl _ _, b⟩, c⟩
theorem ap_add (h : MemAt w hb rb L t) (I v : Int) (t0 : 0 ≤ t) (t1 : t < 4611686018427387904) : Calls Try.prog 17 #[.pointer (some ⟨hb, 0, none⟩), .int .i64 I, .int .u64 v] w (SomeDone hb rb L I w) := by
  rcases out_or_in L I with hi | ⟨i, rfl, hi⟩
  · exact (add_no h I v hi).mono fun e w' ⟨a, b⟩ => ⟨_, a, b ▸ ⟨⟨L, t, But.refl _ _, h⟩, Only.refl _ _⟩⟩
  · exact (add_yes h i v hi t0 t1).mono fun e w' ⟨a, b, c⟩ => ⟨_, a, ⟨_, t + 1, But.set _ _ _, b⟩, c⟩
end

/-- An operation in a block of its own. -/
def OpAt (w : World) (b : Nat) (kind I old v : Int) : Prop := w.heap[b]? = some (.cells #[.int .u8 kind, .int .i64 I, .int .u64 old, .int .u64 v] 34 (0, 0))
section
variable {w w' : World} {b : Nat} {kind I old v : Int}
theorem OpAt.ck (h : OpAt w b kind I old v) : w.cell? ⟨b, 0, none⟩ = some (.int .u8 kind) := by simp only [World.cell?, show w.heap[b]? = _ from h]; rfl
theorem OpAt.ci (h : OpAt w b kind I old v) : w.cell? ⟨b, 1, none⟩ = some (.int .i64 I) := by simp only [World.cell?, show w.heap[b]? = _ from h]; rfl
theorem OpAt.co (h : OpAt w b kind I old v) : w.cell? ⟨b, 2, none⟩ = some (.int .u64 old) := by simp only [World.cell?, show w.heap[b]? = _ from h]; rfl
theorem OpAt.cv (h : OpAt w b kind I old v) : w.cell? ⟨b, 3, none⟩ = some (.int .u64 v) := by simp only [World.cell?, show w.heap[b]? = _ from h]; rfl
theorem OpAt.lt (h : OpAt w b kind I old v) : b < w.heap.size := lt_of_block (show w.heap[b]? = _ from h)
theorem OpAt.keep {S : Nat → Prop} (h : OpAt w b kind I old v) (o : Only S w w') (hs : ¬ S b) : OpAt w' b kind I old v := (o.block b h.lt hs).trans h
end

set_option maxHeartbeats 400000 in
theorem apart_much (a : Option Addr) (cap : Nat) (L : List Int) (kind I old v : Int) (w : World) (hl : 300 < L.length) :
    Calls Try.prog 5 #[.slice a L.length cap, .agg #[.int .u8 kind, .int .i64 I, .int .u64 old, .int .u64 v]] w fun e w' => e = .returned (.bool true) ∧ Below w.heap.size w w' := by
  generalize L.length = len at hl ⊢
  have hl' : (300 : Int) < (len : Int) := by omega
  clear hl
  go_enter Try.func5, Try.ntmps5
  go_wp2_with (go_at_call 9; (with_reducible refine (alive_any _).mono ?_); rintro e w1 ⟨rfl, o1⟩)
  go_ret
  exact ⟨rfl, ((Below.refl _ _).alloc (Nat.le_refl _) _).trans (o1.below (by simp) (fun _ h => h.elim))⟩

set_option maxHeartbeats 2000000 in
theorem apart_walk (a : Option Addr) (cap : Nat) (L : List Int) (kind I old v : Int) (w : World) (hL : RowIn w a L) (hl : L.length ≤ 300) (hk : 0 ≤ kind ∧ kind < 256) :
    Calls Try.prog 5 #[.slice a L.length cap, .agg #[.int .u8 kind, .int .i64 I, .int .u64 old, .int .u64 v]] w fun e w' => e = .returned (.bool true) ∧ Below w.heap.size w w' := by
  have hL' := Lib.hid hL
  clear hL
  have kn := Lib.hid (fun w => ke_new L hl w)
  have ks := Lib.hid (fun (w : World) (hb rb k : Nat) h hk => ke_store (w := w) (hb := hb) (rb := rb) (L := L) (k := k) h hk hl)
  have ff := Lib.hid (fill_full L)
  generalize hlen : L.length = len at hl kn ks ff ⊢
  have hlen' := Lib.hid hlen
  clear hlen
  have hl2 : (len : Int) ≤ 300 := by omega
  obtain ⟨k0, k1⟩ := hk
  have b0 : Below w.heap.size w (w.alloc (.cells #[.int .u8 kind, .int .i64 I, .int .u64 old, .int .u64 v] 34)) := (Below.refl _ _).alloc (Nat.le_refl _) _
  have ob0 : OpAt (w.alloc (.cells #[.int .u8 kind, .int .i64 I, .int .u64 old, .int .u64 v] 34)) w.heap.size kind I old v := heap_new _ _
  have b0' := Lib.hid b0
  have ob0' := Lib.hid ob0
  clear b0 ob0
  go_enter Try.func5, Try.ntmps5
  go_wp2_with (first
    | (go_at_call 9; (with_reducible refine (alive_any _).mono ?_); rintro e w1 ⟨rfl, p1⟩)
    | (go_at_call 10; (with_reducible refine (kn.out _).mono ?_); rintro e w2 ⟨rfl, h2, p2⟩))
  have b1 : Below w.heap.size w w1 := b0'.out.trans (p1.below b0'.out.size (fun _ h => h.elim))
  have ob1 := ob0'.out.keep p1 (fun h => h)
  have b2 : Below w.heap.size w w2 := b1.trans (p2.below b1.size (fun _ h => h.elim))
  have ob2 := ob1.keep p2 (fun h => h)
  have s1 := ob1.lt
  clear p1 p2 b1 b0' ob0' ob1
  generalize w1.heap.size = rb at s1 h2 ⊢
  go_loopw [6] (fun i wr => ∃ (k : Nat), k ≤ len ∧ i = .int .i64 k ∧ MemAt wr (rb + 1) rb (fill L k) k ∧ OpAt wr w.heap.size kind I old v ∧ Below w.heap.size w wr)
    (fun i _ => len - (intOf i).toNat)
  case atStart => exact ⟨0, Nat.zero_le _, rfl, h2, ob2, b2⟩
  case round =>
    obtain ⟨k, hk, rfl, hm, hob, hbel⟩ := hrel
    clear b2 h2 ob2
    have hsz := hbel.size
    by_cases hlt : k < len
    · obtain ⟨b, off, rfl, hb1, hb2⟩ := hL'.out k (by rw [hlen'.out]; exact hlt)
      have hx : wr.cell? ⟨b, off + k, none⟩ = some (.int .u64 (L.getD k 0)) := (hbel.cell (p := ⟨b, off + k, none⟩) hb1).trans (hb2 k (by rw [hlen'.out]; exact hlt))
      have ks' := Lib.hid (ks.out wr _ _ k hm hlt)
      have hob' := Lib.hid hob
      clear hb2 hob
      generalize L.getD k 0 = x at hx ks'
      go_wp2_with (go_at_call 15; (with_reducible refine (ks'.out).mono ?_); rintro e w4 ⟨rfl, h4, o4⟩)
      go_roundw
      case rel => exact ⟨k + 1, by omega, by go_num, h4, hob'.out.keep o4 (fun h => by rcases h with h | h <;> omega), hbel.trans (o4.under hsz (by omega) (by omega))⟩
      case measure => simp [intOf]; omega
    · obtain rfl : k = len := by omega
      rw [ff.out] at hm
      have hob' := Lib.hid hob
      have ck := hob.ck
      have ci := hob.ci
      have co := hob.co
      have cv := hob.cv
      clear hob
      have hk0 : ¬ (k : Int) < (k : Int) := by omega
      go_wp2_with (first
        | (go_at_call 14; (with_reducible refine (ap_load hm _ (by omega) (by omega)).mono ?_); rintro e w4 ⟨rv, rfl, d4⟩)
        | (go_at_call 15; (with_reducible refine (ap_store hm _ _ (by omega) (by omega)).mono ?_); rintro e w4 ⟨rv, rfl, d4⟩)
        | (go_at_call 16; (with_reducible refine (ap_swap hm _ _ _ (by omega) (by omega)).mono ?_); rintro e w4 ⟨rv, rfl, d4⟩)
        | (go_at_call 17; (with_reducible refine (ap_add hm _ _ (by omega) (by omega)).mono ?_); rintro e w4 ⟨rv, rfl, d4⟩))
      all_goals
        obtain ⟨⟨L', t', hbut, hm4⟩, o4⟩ := d4
        have ob4 := hob'.out.keep o4 (fun h => by rcases h with h | h <;> omega)
        have b4 : Below w.heap.size w w4 := hbel.trans (o4.under hsz (by omega) (by omega))
        have bl := Lib.hid hbut.len
        have ba := Lib.hid hbut.at_
        clear hbut hob' ck ci co cv hm o4 hbel hsz
        go_loopw [7] (fun i wz => ∃ (q : Nat), q ≤ k ∧ i = .int .i64 q ∧ Only Nil w4 wz)
          (fun i _ => k - (intOf i).toNat)
        case atStart => exact ⟨0, Nat.zero_le _, rfl, Only.refl _ _⟩
        case round =>
          obtain ⟨q, hq, rfl, ho8⟩ := hrel
          have hm8 := hm4.keep ho8 (fun h => h) (fun h => h)
          have ci8 := (ob4.keep ho8 (fun h => h)).ci
          have b8 : Below w.heap.size w wr := b4.trans (ho8.below b4.size (fun _ h => h.elim))
          have ho8' := Lib.hid ho8
          clear hm4 ob4 b4 ho8
          by_cases hqt : q < k
          · by_cases hqI : (q : Int) = I
            · have hqI' : ((q : Int) != I) = false := by simpa using hqI
              clear hqI
              go_wp2
              go_quiet (fail)
              go_wp2
              go_roundw
              case rel => exact ⟨q + 1, by omega, by go_num, ho8'.out.drewN _⟩
              case measure => simp [intOf]; omega
            · have hqI' : ((q : Int) != I) = true := by simpa using hqI
              obtain ⟨b, off, rfl, hb1, hb2⟩ := hL'.out q (by rw [hlen'.out]; exact hqt)
              have hx : wr.cell? ⟨b, off + q, none⟩ = some (.int .u64 (L.getD q 0)) := (b8.cell (p := ⟨b, off + q, none⟩) hb1).trans (hb2 q (by rw [hlen'.out]; exact hqt))
              have kq := fun n => peek_yes (hm8.drewN n) q (by rw [bl.out, hlen'.out]; exact hqt)
              rw [ba.out q hqI] at kq
              have kq' := Lib.hid kq
              clear hb2 kq hqI
              generalize L.getD q 0 = x at hx kq'
              go_wp2
              go_quiet ((go_at_call 18; exact quiet_same (kq'.out _)))
              go_wp2
              go_roundw
              case rel => exact ⟨q + 1, by omega, by go_num, ho8'.out.drewN _⟩
              case measure => simp [intOf]; omega
          · have al := all_any hm8 (by rw [bl.out, hlen'.out]; omega)
            rw [bl.out, hlen'.out] at al
            have al' := Lib.hid al
            clear al
            go_wp2_with (go_at_call 25; (with_reducible refine al'.out.mono ?_); rintro e w9 ⟨rfl, h9, z9, o9⟩)
            go_ret
            exact ⟨rfl, b8.trans (o9.below b8.size (fun _ h => h.elim))⟩

theorem apart_all (a : Option Addr) (cap : Nat) (L : List Int) (kind I old v : Int) (w : World) (hL : RowIn w a L) (hk : 0 ≤ kind ∧ kind < 256) :
    Calls Try.prog 5 #[.slice a L.length cap, .agg #[.int .u8 kind, .int .i64 I, .int .u64 old, .int .u64 v]] w fun e w' => e = .returned (.bool true) ∧ Below w.heap.size w w' := by
  by_cases h : L.length ≤ 300
  · exact apart_walk a cap L kind I old v w hL h hk
  · exact apart_much a cap L kind I old v w (by omega)
end Go.Proofs.Ytcbmnnpanclclaa
