/- CellsRace answers true for every number and every slice of numbers, and turns nothing that there was: the walk. -/
import Derived.Test.YtcbmnnpanclclaaCellsE
namespace Go.Proofs.Ytcbmnnpanclclaa
open Go.RowKit

section
variable {w : World} {hb rb : Nat} {t : Int}
theorem rc_new (w : World) : Calls Try.prog 10 #[.int .i64 1] w fun e w' =>
    e = .returned (.pointer (some ⟨w.heap.size + 1, 0, none⟩)) ∧ MemAt w' (w.heap.size + 1) w.heap.size [0] 0 ∧ Only Nil w w' := new_any 1 w
theorem rc_store (h : MemAt w hb rb [0] 0) (v : Int) : Calls Try.prog 15 #[.pointer (some ⟨hb, 0, none⟩), .int .i64 0, .int .u64 v] w fun e w' =>
    e = .returned (.int .i64 0) ∧ MemAt w' hb rb [v] 1 ∧ Only (Blk hb rb) w w' := store_yes h 0 v (by simp) (by decide) (by decide)
theorem rc_done {o v : Int} (h : MemAt w hb rb [o] t) (t0 : 0 ≤ t) (t1 : t < 4611686018427387904) : Calls Try.prog 16 #[.pointer (some ⟨hb, 0, none⟩), .int .i64 0, .int .u64 o, .int .u64 v] w fun e w' =>
    e = .returned (.tuple #[.bool true, .int .i64 0]) ∧ MemAt w' hb rb [v] (t + 1) ∧ Only (Blk hb rb) w w' := swap_done h 0 o v (by simp) rfl t0 t1
theorem rc_not {o v c : Int} (h : MemAt w hb rb [c] t) (hc : c ≠ o) (t0 : 0 ≤ t) (t1 : t < 4611686018427387904) : Calls Try.prog 16 #[.pointer (some ⟨hb, 0, none⟩), .int .i64 0, .int .u64 o, .int .u64 v] w fun e w' =>
    e = .returned (.tuple #[.bool false, .int .i64 0]) ∧ MemAt w' hb rb [c] (t + 1) ∧ Only (Blk hb rb) w w' := swap_not h 0 o v (by simp) (by simpa using hc) t0 t1
theorem rc_peek {c : Int} (h : MemAt w hb rb [c] t) : Calls Try.prog 18 #[.pointer (some ⟨hb, 0, none⟩), .int .i64 0] w fun e w' => e = .returned (.int .u64 c) ∧ w = w' := peek_yes h 0 (by simp)
end

/-- What the cell holds, and how many swaps were done. -/
def RaceInv (old n c : Int) : Prop := n = 0 ∧ c = old ∨ n = 1 ∧ c ≠ old

/-- A step of this call's own memory leaves what there was. -/
theorem Only.under {hb rb B : Nat} {w w' : World} (o : Only (Blk hb rb) w w') (hB : B ≤ w.heap.size) (h1 : B ≤ hb) (h2 : B ≤ rb) : Below B w w' :=
  o.below hB (fun _ hk => by rcases hk with rfl | rfl <;> assumption)

set_option maxHeartbeats 1000000 in
theorem race_walk (old : Int) (a : Option Addr) (cap : Nat) (L : List Int) (w : World) (hL : RowIn w a L) (hr : L.length * 8 ≤ 140737488351232) :
    Calls Try.prog 6 #[.int .u64 old, .slice a L.length cap] w fun e w' => e = .returned (.bool true) ∧ Below w.heap.size w w' := by
  have hL' := Lib.hid hL
  clear hL
  generalize hlen : L.length = len at hr ⊢
  have hlen' := Lib.hid hlen
  clear hlen
  go_enter Try.func6, Try.ntmps6
  go_wp2_with (first
    | (go_at_call 9; (with_reducible refine (alive_any _).mono ?_); rintro e w1 ⟨rfl, o1⟩)
    | (go_at_call 10; (with_reducible refine (rc_new _).mono ?_); rintro e w2 ⟨rfl, h2, o2⟩)
    | (go_at_call 15; (with_reducible refine (rc_store (by assumption) _).mono ?_); rintro e w3 ⟨rfl, h3, o3⟩))
  have b1 : Below w.heap.size w w1 := o1.below (Nat.le_refl _) (fun _ h => h.elim)
  have b2 : Below w.heap.size w w2 := b1.trans (o2.below b1.size (fun _ h => h.elim))
  have s1 := b1.size
  have b3 : Below w.heap.size w w3 := b2.trans (o3.under b2.size (by omega) (by omega))
  clear o1 o2 o3 b1 b2 h2
  generalize w1.heap.size = rb at s1 h3 ⊢
  go_loopw [6, 7, 8] (fun won want i wr => ∃ (k : Nat) (t c n : Int), k ≤ len ∧ i = .int .i64 k ∧ won = .int .i64 n ∧ want = .int .u64 c ∧ RaceInv old n c ∧ 0 ≤ t ∧ t ≤ (k : Int) + 1 ∧ MemAt wr (rb + 1) rb [c] t ∧ Below w.heap.size w wr)
    (fun _ _ i _ => len - (intOf i).toNat)
  case atStart => exact ⟨0, 1, old, 0, Nat.zero_le _, rfl, rfl, rfl, .inl ⟨rfl, rfl⟩, by decide, by decide, h3, b3⟩
  case round =>
    obtain ⟨k, t, c, n, hk, rfl, rfl, rfl, hinv, t0, t1, hm, hbel⟩ := hrel
    clear b3 h3
    have hsz := hbel.size
    by_cases hlt : k < len
    · obtain ⟨b, off, rfl, hb1, hb2⟩ := hL'.out k (by rw [hlen'.out]; exact hlt)
      have hx : wr.cell? ⟨b, off + k, none⟩ = some (.int .u64 (L.getD k 0)) := (hbel.cell (p := ⟨b, off + k, none⟩) hb1).trans (hb2 k (by rw [hlen'.out]; exact hlt))
      generalize L.getD k 0 = x at hx
      clear hb2
      by_cases hxo : x = old
      · have hxo' : (x == old) = true := by simpa using hxo
        clear hxo
        have hinv' := Lib.hid hinv
        clear hinv
        go_wp2
        go_roundw
        case rel => exact ⟨k + 1, t, c, n, by omega, by go_num, rfl, rfl, hinv'.out, t0, by omega, hm, hbel⟩
        case measure => simp [intOf]; omega
      · have hxo' : (x == old) = false := by simpa using hxo
        rcases hinv with ⟨rfl, rfl⟩ | ⟨rfl, hco⟩
        · have hxc := Lib.hid hxo
          clear hxo
          go_wp2_with (go_at_call 16; (with_reducible refine (rc_done hm t0 (by omega)).mono ?_); rintro e w4 ⟨rfl, h4, o4⟩; have hx4 : w4.cell? ⟨b, off + k, none⟩ = some (.int .u64 x) := ((o4.under (B := w.heap.size) hsz (by omega) (by omega)).cell (p := ⟨b, off + k, none⟩) hb1).trans hx)
          go_roundw
          case rel => exact ⟨k + 1, t + 1, x, 1, by omega, by go_num, rfl, rfl, .inr ⟨rfl, hxc.out⟩, by omega, by omega, h4, hbel.trans (o4.under hsz (by omega) (by omega))⟩
          case measure => simp [intOf]; omega
        · have hco' := Lib.hid hco
          have hxc := Lib.hid hxo
          clear hco hxo
          go_wp2_with (go_at_call 16; (with_reducible refine (rc_not hm hco'.out t0 (by omega)).mono ?_); rintro e w4 ⟨rfl, h4, o4⟩)
          go_roundw
          case rel => exact ⟨k + 1, t + 1, c, 1, by omega, by go_num, rfl, rfl, .inr ⟨rfl, hco'.out⟩, by omega, by omega, h4, hbel.trans (o4.under hsz (by omega) (by omega))⟩
          case measure => simp [intOf]; omega
    · go_wp2_with (go_at_call 18; (with_reducible refine (rc_peek hm).mono ?_); rintro e w4 ⟨rfl, rfl⟩)
      go_ret
      exact ⟨rfl, hbel⟩
end Go.Proofs.Ytcbmnnpanclclaa
