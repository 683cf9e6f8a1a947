/- The search for the first gap that fits: slices.IndexFunc at its closure; room. -/
import Derived.Test.YtgpagfgedimjeaaAreaC
import Derived.Shelf.Abstract
namespace Go.Proofs.Ytgpagfgedimjeaa
open Go.RowKit

set_option maxHeartbeats 1000000 in
/-- slices.IndexFunc at room's closure: the first gap that fits stands ahead of the i-th region. -/
theorem idx_yes {w : World} {a : Option Addr} {cap n : Nat} {L : List Reg} (rg : RegsIn w a L) (hok : Ok n L) (nle : n ≤ 65536) (B K : Nat) (k : Int)
    (hB : w.heap[B]? = some (.cells #[.int .i64 0] 3 (0, 0))) (hK : w.heap[K]? = some (.cells #[.int .i64 k] 3 (0, 0))) (haB : ∀ b, a = some b → b.block ≠ B) (hBK : K ≠ B)
    (i : Nat) (hi : i < L.length) (hf : Fits L n k i) (hno : ∀ j, j < i → ¬ Fits L n k j) :
    Calls Try.prog 32 #[.slice a L.length cap, .func (.func 33) #[] #[.pointer (some ⟨B, 0, none⟩), .pointer (some ⟨K, 0, none⟩)]] w fun e w' =>
      e = .returned (.int .i64 (i : Int)) ∧ w'.heap[B]? = some (.cells #[.int .i64 (endAt L i : Int)] 3 (0, 0)) ∧ Only (fun q => q = B) w w' := by
  have rg' := Lib.hid rg
  have lle : L.length ≤ 65536 := Nat.le_trans hok.length_le nle
  have hff := Lib.hid (show ∀ j, j < L.length → (Fits L n k j ↔ k ≤ ((regAt L j).1 : Int) - (endAt L j : Int)) from fun j hj => by unfold Fits; rw [bnd_lt hj])
  have hno' := Lib.hid hno
  have hf' := Lib.hid hf
  have hend := Lib.hid (show ∀ j, j ≤ L.length → endAt L j ≤ 65536 from fun j hj => Nat.le_trans (hok.end_le j hj) nle)
  have hes := Lib.hid (endAt_succ L)
  have haB' := Lib.hid haB
  have hK' := Lib.hid hK
  have h0 : w.heap[B]? = some (.cells #[.int .i64 (endAt L 0 : Int)] 3 (0, 0)) := hB
  clear rg hno hf hok haB hK hB
  generalize hlen : L.length = len at hi lle hff hend ⊢
  have hlen' := Lib.hid hlen
  clear hlen
  have lle' : (len : Int) ≤ 65536 := by omega
  have eg : ∀ args w, (callFunc 33 args).run Try.prog w = .ok (.enter 33 args) w := enters_of Try.func33 (by kernel_rfl) rfl
  go_enter Try.func32, Try.ntmps32
  go_wp2
  go_loopw [8] (fun s wr => ∃ (j : Nat), j ≤ i ∧ s = .int .i64 (j : Int) ∧ wr.heap[B]? = some (.cells #[.int .i64 (endAt L j : Int)] 3 (0, 0)) ∧ Only (fun q => q = B) w wr)
    (fun s _ => len - (intOf s).toNat)
  case atStart => exact ⟨0, Nat.zero_le _, rfl, h0, Only.refl _ _⟩
  case round =>
    obtain ⟨j, hj, rfl, hBj, ho⟩ := hrel
    have hBj' := Lib.hid hBj
    have ho' := Lib.hid ho
    clear h0 hBj ho
    have hjl : j < len := by omega
    obtain ⟨g, rfl, hg1, hg2⟩ := (rg'.out.keep ho'.out (fun k b e h => by rw [h]; exact fun e2 => haB'.out b e e2.symm)) j (by rw [hlen'.out]; exact hjl)
    obtain ⟨x0, x1⟩ := hg2 j (by rw [hlen'.out]; exact hjl)
    have hKj := Lib.hid ((ho'.out.block K (lt_of_block hK'.out) hBK).trans hK'.out)
    have e1 := Lib.hid (hes.out j)
    have e2 := hend.out j (by omega)
    have e3 := hend.out (j + 1) (by omega)
    have e4 := Lib.hid (hff.out j hjl)
    clear hg2
    generalize regAt L j = r at x0 x1 e1 e4
    obtain ⟨rb, rl⟩ := r
    simp only at x0 x1
    rw [e1.out] at e3
    have e5 := Lib.hid (e1.out)
    by_cases hji : j = i
    · subst hji
      have cc := Lib.hid (fun w' h1 h2 => gap_yes w' rb rl (endAt L j) k B K h1 h2 (by simp only at e3; omega) e2 (e4.out.1 hf'.out))
      have hE := Lib.hid (show ∀ w', Only Nil wr w' → w'.heap[B]? = some (.cells #[.int .i64 (endAt L j : Int)] 3 (0, 0)) ∧ Only (fun q => q = B) w w' from
        fun w' o => ⟨(o.block B (lt_of_block hBj'.out) (fun h => h)).trans hBj'.out, ho'.out.trans (o.nilTo _)⟩)
      go_wp2_with (go_at_fn 33; refine (cc.out _ hBj'.out hKj.out).mono ?_; rintro e w' ⟨rfl, o'⟩)
      go_ret
      exact ⟨rfl, hE.out _ o'⟩
    · have cc := Lib.hid (fun w' h1 h2 => gap_no w' rb rl (endAt L j) k B K h1 h2 (by simp only at e3; omega) e2 (fun h => hno'.out j (by omega) (e4.out.2 h)))
      go_wp2_with (go_at_fn 33; refine (cc.out _ hBj'.out hKj.out).mono ?_; rintro e w' ⟨rfl, hB', o'⟩)
      go_roundw
      case rel => exact ⟨j + 1, by omega, by go_num, by rw [hB', e5.out], ho'.out.trans o'⟩
      case measure => simp [intOf]; omega

set_option maxHeartbeats 1000000 in
/-- .. and where no gap ahead of a region fits. -/
theorem idx_no {w : World} {a : Option Addr} {cap n : Nat} {L : List Reg} (rg : RegsIn w a L) (hok : Ok n L) (nle : n ≤ 65536) (B K : Nat) (k : Int)
    (hB : w.heap[B]? = some (.cells #[.int .i64 0] 3 (0, 0))) (hK : w.heap[K]? = some (.cells #[.int .i64 k] 3 (0, 0))) (haB : ∀ b, a = some b → b.block ≠ B) (hBK : K ≠ B)
    (hno : ∀ j, j < L.length → ¬ Fits L n k j) :
    Calls Try.prog 32 #[.slice a L.length cap, .func (.func 33) #[] #[.pointer (some ⟨B, 0, none⟩), .pointer (some ⟨K, 0, none⟩)]] w fun e w' =>
      e = .returned (.int .i64 (-1)) ∧ w'.heap[B]? = some (.cells #[.int .i64 (endAt L L.length : Int)] 3 (0, 0)) ∧ Only (fun q => q = B) w w' := by
  have rg' := Lib.hid rg
  have lle : L.length ≤ 65536 := Nat.le_trans hok.length_le nle
  have hff := Lib.hid (show ∀ j, j < L.length → (Fits L n k j ↔ k ≤ ((regAt L j).1 : Int) - (endAt L j : Int)) from fun j hj => by unfold Fits; rw [bnd_lt hj])
  have hno' := Lib.hid hno
  have hend := Lib.hid (show ∀ j, j ≤ L.length → endAt L j ≤ 65536 from fun j hj => Nat.le_trans (hok.end_le j hj) nle)
  have hes := Lib.hid (endAt_succ L)
  have haB' := Lib.hid haB
  have hK' := Lib.hid hK
  have h0 : w.heap[B]? = some (.cells #[.int .i64 (endAt L 0 : Int)] 3 (0, 0)) := hB
  clear rg hno hok haB hK hB
  generalize hlen : L.length = len at lle hff hend hno' ⊢
  have hlen' := Lib.hid hlen
  clear hlen
  have lle' : (len : Int) ≤ 65536 := by omega
  have eg : ∀ args w, (callFunc 33 args).run Try.prog w = .ok (.enter 33 args) w := enters_of Try.func33 (by kernel_rfl) rfl
  go_enter Try.func32, Try.ntmps32
  go_wp2
  go_loopw [8] (fun s wr => ∃ (j : Nat), j ≤ len ∧ s = .int .i64 (j : Int) ∧ wr.heap[B]? = some (.cells #[.int .i64 (endAt L j : Int)] 3 (0, 0)) ∧ Only (fun q => q = B) w wr)
    (fun s _ => len - (intOf s).toNat)
  case atStart => exact ⟨0, Nat.zero_le _, rfl, h0, Only.refl _ _⟩
  case round =>
    obtain ⟨j, hj, rfl, hBj, ho⟩ := hrel
    have hBj' := Lib.hid hBj
    have ho' := Lib.hid ho
    clear h0 hBj ho
    by_cases hjl : j < len
    · obtain ⟨g, rfl, hg1, hg2⟩ := (rg'.out.keep ho'.out (fun k b e h => by rw [h]; exact fun e2 => haB'.out b e e2.symm)) j (by rw [hlen'.out]; exact hjl)
      obtain ⟨x0, x1⟩ := hg2 j (by rw [hlen'.out]; exact hjl)
      have hKj := Lib.hid ((ho'.out.block K (lt_of_block hK'.out) hBK).trans hK'.out)
      have e1 := Lib.hid (hes.out j)
      have e2 := hend.out j (by omega)
      have e3 := hend.out (j + 1) (by omega)
      have e4 := Lib.hid (hff.out j hjl)
      clear hg2
      generalize regAt L j = r at x0 x1 e1 e4
      obtain ⟨rb, rl⟩ := r
      simp only at x0 x1
      rw [e1.out] at e3
      have cc := Lib.hid (fun w' h1 h2 => gap_no w' rb rl (endAt L j) k B K h1 h2 (by simp only at e3; omega) e2 (fun h => hno'.out j hjl (e4.out.2 h)))
      go_wp2_with (go_at_fn 33; refine (cc.out _ hBj'.out hKj.out).mono ?_; rintro e w' ⟨rfl, hB', o'⟩)
      go_roundw
      case rel => exact ⟨j + 1, by omega, by go_num, by rw [hB', e1.out], ho'.out.trans o'⟩
      case measure => simp [intOf]; omega
    · obtain rfl : j = len := by omega
      have hk0 : ¬ (j : Int) < (j : Int) := by omega
      go_wp2
      go_ret
      exact ⟨rfl, hBj'.out, ho'.out⟩

/-- Three results, the first of which lies in a cell. -/
theorem results_c3 {P : Program} {fn : Func} {p u v : Tmp} {ty : TypeId} (h : fn.results = #[.cell p ty, .tmp u, .tmp v]) (tmps : Array Value) (w : World) (b : Nat) (x : Value)
    (hag : ∀ w, (isAgg ty).run P w = .ok false w) (hp : tmps.getD p undef = .pointer (some ⟨b, 0, none⟩)) (hc : w.cell? ⟨b, 0, none⟩ = some x) :
    (results fn tmps).run P w = .ok (.tuple #[x, tmps.getD u undef, tmps.getD v undef]) w := by
  have hp' : tmps[p]?.getD undef = .pointer (some ⟨b, 0, none⟩) := by simpa using hp
  simp only [results, h]
  simp [Sem.run_bind, Result.andThen, asAddr, loadVar, hag, hp', hc]
theorem cell_of_heap {w : World} {b : Nat} {v : Value} {t : TypeId} (h : w.heap[b]? = some (.cells #[v] t (0, 0))) : w.cell? ⟨b, 0, none⟩ = some v := by simp [World.cell?, h]

/-- What room's own two variables are, as the search begins. -/
theorem room_start {w : World} {hb : Nat} {a : Option Addr} {cap n : Nat} {L : List Reg} (h : AreaAt w hb a cap n L) (k : Int) :
    AreaAt ((w.alloc (.cells #[.int .i64 k] 3)).alloc (.cells #[.int .i64 0] 3)) hb a cap n L
    ∧ ((w.alloc (.cells #[.int .i64 k] 3)).alloc (.cells #[.int .i64 0] 3)).heap[w.heap.size + 1]? = some (.cells #[.int .i64 0] 3 (0, 0))
    ∧ ((w.alloc (.cells #[.int .i64 k] 3)).alloc (.cells #[.int .i64 0] 3)).heap[w.heap.size]? = some (.cells #[.int .i64 k] 3 (0, 0))
    ∧ Only Nil w ((w.alloc (.cells #[.int .i64 k] 3)).alloc (.cells #[.int .i64 0] 3)) := by
  refine ⟨(h.alloc _).alloc _, ?_, ?_, ((Only.refl _ _).alloc _).alloc _⟩
  · have := heap_new (w.alloc (.cells #[.int .i64 k] 3)) (.cells #[.int .i64 0] 3)
    simpa using this
  · rw [Below.heap_alloc _ _ _ (by simp)]
    exact heap_new _ _

set_option maxHeartbeats 1000000 in
/-- room, where a gap ahead of a region fits. -/
theorem room_mid {w : World} {hb : Nat} {a : Option Addr} {cap n : Nat} {L : List Reg} (h : AreaAt w hb a cap n L) (k : Int) (i : Nat) (hi : i < L.length) (hf : Fits L n k i) (hno : ∀ j, j < i → ¬ Fits L n k j) :
    Calls Try.prog 28 #[.pointer (some ⟨hb, 0, none⟩), .int .i64 k] w fun e w' =>
      e = .returned (.tuple #[.int .i64 (endAt L i : Int), .int .i64 (i : Int), .bool true]) ∧ Only Nil w w' := by
  obtain ⟨hA, hB, hK, hO⟩ := room_start h k
  have cc := Lib.hid (idx_yes (cap := cap) hA.regs hA.ok hA.nle (w.heap.size + 1) w.heap.size k hB hK (fun b e => by have := h.lt_a b e; omega) (by omega) i hi hf hno)
  have c1 := hA.c1
  have hO' := Lib.hid hO
  have lth := h.lt_hb
  clear hA hB hK hO h hf hno
  generalize endAt L i = E at cc ⊢
  go_enter Try.func28, Try.ntmps28
  go_wp2_with (go_at_call 32; (with_reducible refine (cc.out).mono ?_); rintro e w' ⟨rfl, hB, o'⟩; have cB : w'.cell? ⟨w.heap.size + 1, 0, none⟩ = some (.int .i64 (E : Int)) := (by simp [World.cell?, hB]); have fB : w'.frozen? ⟨w.heap.size + 1, 0, none⟩ = false := (by simp [World.frozen?, hB]))
  refine bodyPost_ret (results_c3 rfl _ _ (w.heap.size + 1) (.int .i64 (E : Int)) Try.isAgg3 rfl (cell_of_heap (heap_setCell_self (o := 0) _ hB))) rfl ?_
  exact ⟨rfl, (hO'.out.then o' (fun q hq hl => by omega)).then ((Only.refl (fun q => q = w.heap.size + 1) w').setCell (p := ⟨w.heap.size + 1, 0, none⟩) rfl _) (fun q hq hl => by omega)⟩
end Go.Proofs.Ytgpagfgedimjeaa
