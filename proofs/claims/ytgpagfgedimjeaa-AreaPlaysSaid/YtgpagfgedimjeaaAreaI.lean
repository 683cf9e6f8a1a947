/- Take, by contracts. -/
import Derived.Test.YtgpagfgedimjeaaAreaH
namespace Go.Proofs.Ytgpagfgedimjeaa
open Go.RowKit

theorem area_set {w : World} {hb : Nat} {a a' : Option Addr} {cap cap' n : Nat} {L L' : List Reg} (hh : w.heap[hb]? = some (.cells #[.int .i64 (n : Int), .slice a L.length cap] 51 (0, 0)))
    (hr : w.ownsRow 0 47 2 (.slice a' L'.length cap') L'.length (regs L')) (hne : ∀ b, a' = some b → b.block ≠ hb) (hok : Ok n L') (nle : n ≤ 65536) :
    AreaAt (w.setCell ⟨hb, 1, none⟩ (.slice a' L'.length cap')) hb a' cap' n L' ∧ Only (fun q => q = hb) w (w.setCell ⟨hb, 1, none⟩ (.slice a' L'.length cap')) := by
  have ho := (Only.refl (fun q => q = hb) w).setCell (p := ⟨hb, 1, none⟩) rfl (.slice a' L'.length cap')
  refine ⟨⟨?_, own_keep hr ho (fun g e hg => ?_), hne, hok, nle⟩, ho⟩
  · rw [heap_setCell_self _ hh]; rfl
  · cases a' with
    | none => simp [Value.ownBlock] at e
    | some b => simp [Value.ownBlock] at e; exact hne b rfl (e.trans hg)

section
variable {w : World} {hb : Nat} {a : Option Addr} {cap n : Nat} {L : List Reg}

theorem take_arg (_h : AreaAt w hb a cap n L) (k : Int) (hk : k < 1) :
    Calls Try.prog 13 #[.pointer (some ⟨hb, 0, none⟩), .int .i64 k] w fun e w' => e = .returned (.tuple #[.int .i64 0, .int .i64 1]) ∧ w = w' := by
  clear _h
  go_enter Try.func13, Try.ntmps13
  go_wp2
  go_ret2
  exact ⟨rfl, rfl⟩

theorem take_full (h : AreaAt w hb a cap n L) (k : Int) (hk : 1 ≤ k) (hno : ∀ i, i ≤ L.length → ¬ Fits L n k i) :
    Calls Try.prog 13 #[.pointer (some ⟨hb, 0, none⟩), .int .i64 k] w fun e w' => e = .returned (.tuple #[.int .i64 0, .int .i64 4]) ∧ Only Nil w w' := by
  have rc := room_end h k (fun j hj => hno j (by omega))
  have hf := hno L.length (Nat.le_refl _)
  unfold Fits at hf
  rw [bnd_end] at hf
  rw [decide_eq_false hf] at rc
  have rc' := Lib.hid rc
  have hk' : ¬ k < 1 := by omega
  clear hf rc hno h
  go_enter Try.func13, Try.ntmps13
  go_wp2_with (go_at_call 28; (with_reducible refine (rc'.out).mono ?_); rintro e w1 ⟨rfl, o1⟩)
  go_ret2
  exact ⟨rfl, o1⟩

/-- room, wherever the first gap is that fits. -/
theorem room_any (h : AreaAt w hb a cap n L) (k : Int) (i : Nat) (hi : i ≤ L.length) (hf : Fits L n k i) (hno : ∀ j, j < i → ¬ Fits L n k j) :
    Calls Try.prog 28 #[.pointer (some ⟨hb, 0, none⟩), .int .i64 k] w fun e w' =>
      e = .returned (.tuple #[.int .i64 (endAt L i : Int), .int .i64 (i : Int), .bool true]) ∧ Only Nil w w' := by
  by_cases e : i = L.length
  · have rc := room_end h k (fun j hj => hno j (by omega))
    have hf' := hf
    unfold Fits at hf'
    rw [e, bnd_end] at hf'
    rw [decide_eq_true hf'] at rc
    rw [e]; exact rc
  · exact room_mid h k i (by omega) hf hno

set_option maxHeartbeats 1000000 in
theorem take_yes (h : AreaAt w hb a cap n L) (k : Nat) (hk : 1 ≤ k) (i : Nat) (hi : i ≤ L.length) (hf : Fits L n k i) (hno : ∀ j, j < i → ¬ Fits L n k j) :
    Calls Try.prog 13 #[.pointer (some ⟨hb, 0, none⟩), .int .i64 (k : Int)] w fun e w' =>
      ∃ a' cap', e = .returned (.tuple #[.int .i64 (endAt L i : Int), .int .i64 0]) ∧ AreaAt w' hb a' cap' n (ins L i (endAt L i, k)) ∧ Only (Own hb a) w w' ∧ SameOrNew w a a' := by
  have rc' := Lib.hid (room_any h k i hi hf hno)
  have hk' : ¬ (k : Int) < 1 := by omega
  have h' := Lib.hid h
  have okI := Lib.hid (h.ok.ins i k hi hk hf)
  have hil := Lib.hid (length_ins L i (endAt L i, k))
  have lle := h.len
  clear hf hno h
  generalize hE : endAt L i = E at rc' okI hil ⊢
  clear hE
  go_enter Try.func13, Try.ntmps13
  go_wp2_with (first
    | (go_at_call 28; (with_reducible refine (rc'.out).mono ?_); rintro e w1 ⟨rfl, o1⟩; have h1 := Lib.hid (h'.out.keep o1 (fun _ h => h.elim)); have o1' := Lib.hid o1; clear o1; have k1 := h1.out.c1)
    | (go_at_call 29; (with_reducible refine (insert_any (h1.out.alloc (.cells #[.int .i64 (E : Int), .int .i64 (k : Int)] 47)).row w1.heap.size E k (heap_new w1 (.cells #[.int .i64 (E : Int), .int .i64 (k : Int)] 47)) (fun x e => by have := h1.out.lt_a x e; omega) lle i hi).mono ?_); rintro e w2 ⟨a', cap', rfl, r2, o2, n2⟩
       have l1 := h1.out.lt_hb
       have hd := (o2.block hb (by simp; omega) (fun ⟨x, e, e2⟩ => h1.out.ne x e e2.symm)).trans (h1.out.alloc (.cells #[.int .i64 (E : Int), .int .i64 (k : Int)] 47)).head
       have hd' := Lib.hid hd
       have cc : w2.cell? ⟨hb, 1, none⟩ = some (.slice a L.length cap) := (by simp [World.cell?, hd])
       have ff : w2.frozen? ⟨hb, 1, none⟩ = false := (by simp [World.frozen?, hd])
       have r2' := Lib.hid r2
       have o2' := Lib.hid o2
       have n2' := Lib.hid n2
       clear hd r2 o2 n2))
  go_ret2
  have hne : ∀ b, a' = some b → b.block ≠ hb := fun b e => by
    rcases n2'.out b e with ⟨y, e1, e2⟩ | hge
    · rw [e2]; exact h1.out.ne y e1
    · have : (w1.alloc (.cells #[.int .i64 (E : Int), .int .i64 (k : Int)] 47)).heap.size = w1.heap.size + 1 := by simp
      omega
  have rr := r2'.out
  rw [← hil.out] at rr
  obtain ⟨f1, f2⟩ := area_set hd'.out rr hne okI.out h'.out.nle
  rw [hil.out] at f1 f2
  refine ⟨a', cap', rfl, f1, ?_, fun b e => ?_⟩
  · have t1 : Only (Own hb a) w (w1.alloc (.cells #[.int .i64 (E : Int), .int .i64 (k : Int)] 47)) := (o1'.out.nilTo _).alloc _
    exact (t1.trans (o2'.out.mono (fun q hq => .inr hq))).trans (f2.mono (fun q hq => .inl hq))
  · rcases n2'.out b e with h | hge
    · exact .inl h
    · have s1 := o1'.out.size
      have : (w1.alloc (.cells #[.int .i64 (E : Int), .int .i64 (k : Int)] 47)).heap.size = w1.heap.size + 1 := by simp
      exact .inr (by omega)
end
end Go.Proofs.Ytgpagfgedimjeaa
