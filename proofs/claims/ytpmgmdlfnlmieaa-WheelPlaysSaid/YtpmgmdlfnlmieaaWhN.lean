/- wheel: a wheel that a call has made; alive. -/
import Derived.Test.YtpmgmdlfnlmieaaWhM
namespace Go.Proofs.Ytpmgmdlfnlmieaa.Wh
open Go.RowKit Go.Proofs.Ytpmgmdlfnlmieaa

/-- World w holds, at hb, a wheel of the timers L that was made behind world w0; nothing that there was in w0 has turned. -/
def Mine (w0 w : World) (hb now added : Nat) (L : List Tm) : Prop := ∃ S : Nat → Prop, Wl w S hb now added L ∧ (∀ k, S k → w0.heap.size ≤ k) ∧ Only Nil w0 w ∧ Good now added L

section
variable {w0 w w' : World} {hb now added : Nat} {L : List Tm}
theorem Mine.nil (h : Mine w0 w hb now added L) (o : Only Nil w w') : Mine w0 w' hb now added L := by
  obtain ⟨S, h1, h2, h3, h4⟩ := h
  exact ⟨S, h1.nil o, h2, h3.trans o, h4⟩
theorem Mine.only (h : Mine w0 w hb now added L) : Only Nil w0 w := by obtain ⟨_, _, _, h, _⟩ := h; exact h
theorem Mine.good (h : Mine w0 w hb now added L) : Good now added L := by obtain ⟨_, _, _, _, h⟩ := h; exact h

theorem mine_new (w0 w : World) (o : Only Nil w0 w) : Calls Try.prog 10 #[] w fun e w' => e = .returned (.pointer (some ⟨w.heap.size, 0, none⟩)) ∧ Mine w0 w' w.heap.size 0 0 [] :=
  (new_any w).mono fun e w' ⟨he, h, o'⟩ => ⟨he, _, ⟨_, by have e : slots 0 ([] : List Tm) = fun _ => [] := by funext n; simp [slots]
                                                          rw [e]; exact h⟩, fun k hk => by subst hk; exact o.size, o.trans o', ⟨fun t ht => by simp at ht, by simp, by simp, by simp, fun t ht => by simp at ht, fun t ht => by simp at ht, by decide⟩⟩
theorem mine_len (h : Mine w0 w hb now added L) : Calls Try.prog 20 #[.pointer (some ⟨hb, 0, none⟩)] w fun e w' => e = .returned (.int .i64 (L.length : Int)) ∧ Mine w0 w' hb now added L := by
  obtain ⟨S, h1, h2, h3, h4⟩ := h
  exact (wlen h1 h4).mono fun e w' ⟨he, o⟩ => ⟨he, S, h1.nil o, h2, h3.trans o, h4⟩
theorem mine_now (h : Mine w0 w hb now added L) : Calls Try.prog 19 #[.pointer (some ⟨hb, 0, none⟩)] w fun e w' => e = .returned (.int .i64 (now : Int)) ∧ Mine w0 w' hb now added L := by
  obtain ⟨S, h1, h2, h3, h4⟩ := h
  refine (wnow h1).mono ?_
  rintro e w' ⟨he, rfl⟩
  exact ⟨he, S, h1, h2, h3, h4⟩
theorem mine_where_no (h : Mine w0 w hb now added L) (id : Nat) (hid : ∀ t ∈ L, t.id ≠ id) : Calls Try.prog 23 #[.pointer (some ⟨hb, 0, none⟩), .int .u64 (id : Int)] w fun e w' => e = .returned (.tuple #[.int .i64 0, .int .i64 0, .bool false]) ∧ Mine w0 w' hb now added L := by
  obtain ⟨S, h1, h2, h3, h4⟩ := h
  exact (where_no h1 h4 id hid).mono fun e w' ⟨he, o⟩ => ⟨he, S, h1.nil o, h2, h3.trans o, h4⟩
theorem mine_where_yes (h : Mine w0 w hb now added L) (t : Tm) (ht : t ∈ L) : Calls Try.prog 23 #[.pointer (some ⟨hb, 0, none⟩), .int .u64 (t.id : Int)] w fun e w' =>
    e = .returned (.tuple #[.int .i64 (lev now t.due : Nat), .int .i64 (dig t.due (lev now t.due) : Nat), .bool true]) ∧ Mine w0 w' hb now added L := by
  obtain ⟨S, h1, h2, h3, h4⟩ := h
  exact (where_yes h1 h4 t ht).mono fun e w' ⟨he, o⟩ => ⟨he, S, h1.nil o, h2, h3.trans o, h4⟩
theorem mine_due_no (h : Mine w0 w hb now added L) (id : Nat) (hid : ∀ t ∈ L, t.id ≠ id) : Calls Try.prog 24 #[.pointer (some ⟨hb, 0, none⟩), .int .u64 (id : Int)] w fun e w' => e = .returned (.tuple #[.int .i64 0, .bool false]) ∧ Mine w0 w' hb now added L := by
  obtain ⟨S, h1, h2, h3, h4⟩ := h
  exact (due_no h1 h4 id hid).mono fun e w' ⟨he, o⟩ => ⟨he, S, h1.nil o, h2, h3.trans o, h4⟩
theorem mine_due_yes (h : Mine w0 w hb now added L) (t : Tm) (ht : t ∈ L) : Calls Try.prog 24 #[.pointer (some ⟨hb, 0, none⟩), .int .u64 (t.id : Int)] w fun e w' => e = .returned (.tuple #[.int .i64 (t.due : Int), .bool true]) ∧ Mine w0 w' hb now added L := by
  obtain ⟨S, h1, h2, h3, h4⟩ := h
  exact (due_yes h1 h4 t ht).mono fun e w' ⟨he, o⟩ => ⟨he, S, h1.nil o, h2, h3.trans o, h4⟩
theorem mine_add_bad (h : Mine w0 w hb now added L) (id d : Int) (hd : d < 1 ∨ 4095 < d) : Calls Try.prog 12 #[.pointer (some ⟨hb, 0, none⟩), .int .u64 id, .int .i64 d] w fun e w' => e = .returned (.int .i64 1) ∧ Mine w0 w' hb now added L := by
  refine (add_bad _ id d hd w).mono ?_
  rintro e w' ⟨he, rfl⟩
  exact ⟨he, h⟩
theorem mine_add_there (h : Mine w0 w hb now added L) (t : Tm) (ht : t ∈ L) (d : Int) (h1 : 1 ≤ d) (h2 : d ≤ 4095) : Calls Try.prog 12 #[.pointer (some ⟨hb, 0, none⟩), .int .u64 (t.id : Int), .int .i64 d] w fun e w' => e = .returned (.int .i64 3) ∧ Mine w0 w' hb now added L := by
  obtain ⟨S, k1, k2, k3, k4⟩ := h
  exact (add_there k1 k4 t ht d h1 h2).mono fun e w' ⟨he, o⟩ => ⟨he, S, k1.nil o, k2, k3.trans o, k4⟩
theorem mine_add_full (h : Mine w0 w hb now added L) (id : Nat) (hid : ∀ t ∈ L, t.id ≠ id) (hl : L.length = 64) (d : Int) (h1 : 1 ≤ d) (h2 : d ≤ 4095) : Calls Try.prog 12 #[.pointer (some ⟨hb, 0, none⟩), .int .u64 (id : Int), .int .i64 d] w fun e w' => e = .returned (.int .i64 4) ∧ Mine w0 w' hb now added L := by
  obtain ⟨S, k1, k2, k3, k4⟩ := h
  exact (add_full k1 k4 id hid hl d h1 h2).mono fun e w' ⟨he, o⟩ => ⟨he, S, k1.nil o, k2, k3.trans o, k4⟩
theorem mine_add_ok (h : Mine w0 w hb now added L) (id d : Nat) (hid : ∀ t ∈ L, t.id ≠ id) (hl : L.length < 64) (h1 : 1 ≤ d) (h2 : d ≤ 4095) (ha : added < 1000000000) (h64 : id < 18446744073709551616) :
    Calls Try.prog 12 #[.pointer (some ⟨hb, 0, none⟩), .int .u64 (id : Int), .int .i64 (d : Int)] w fun e w' => e = .returned (.int .i64 0) ∧ Mine w0 w' hb now (added + 1) (L ++ [⟨id, now + d, added⟩]) := by
  obtain ⟨S, k1, k2, k3, k4⟩ := h
  exact (add_ok k1 k4 id d hid hl h1 h2 ha).mono fun e w' ⟨he, h', o⟩ => ⟨he, Plus S w w', h', fun k hk => by
    rcases hk with hk | hk
    · exact k2 k hk
    · have := k3.size; omega, k3.then o (fun k hk hlt => by have := k2 k hk; omega), k4.add id d hid hl h1 h2 h64⟩
theorem mine_tick (h : Mine w0 w hb now added L) (hn : now + 1 < 1000000000) : Calls Try.prog 18 #[.pointer (some ⟨hb, 0, none⟩)] w fun e w' =>
    ∃ v, e = .returned v ∧ Hid (w'.ownsRow w.heap.size 30 1 v (L.filter fun t => t.due == now + 1).length (ids (L.filter fun t => t.due == now + 1))) ∧ Mine w0 w' hb (now + 1) added (L.filter fun t => !(t.due == now + 1)) := by
  obtain ⟨S, k1, k2, k3, k4⟩ := h
  exact (tick_any k1 k4 hn).mono fun e w' ⟨v, he, hr, h', o⟩ => ⟨v, he, hr, Plus S w w', h', fun k hk => by
    rcases hk with hk | hk
    · exact k2 k hk
    · have := k3.size; omega, k3.then o (fun k hk hlt => by have := k2 k hk; omega), k4.tick hn⟩
end

def ta : Tm := ⟨5, 3, 0⟩
def tb : Tm := ⟨7, 20, 1⟩

set_option maxRecDepth 100000 in
set_option maxHeartbeats 4000000 in
theorem alive_any (w : World) : Calls Try.prog 9 #[] w fun e w' => e = .returned (.bool true) ∧ Only Nil w w' := by
  have a1 := Lib.hid (fun (w1 : World) (h : Mine w w1 w.heap.size 0 0 []) => show Calls Try.prog 12 #[.pointer (some ⟨w.heap.size, 0, none⟩), .int .u64 5, .int .i64 3] w1 fun e w' => e = .returned (.int .i64 0) ∧ Mine w w' w.heap.size 0 1 [ta] from
    mine_add_ok h 5 3 (by simp) (by decide) (by decide) (by decide) (by decide) (by decide))
  have a2 := Lib.hid (fun (w1 : World) (h : Mine w w1 w.heap.size 0 1 [ta]) => show Calls Try.prog 12 #[.pointer (some ⟨w.heap.size, 0, none⟩), .int .u64 7, .int .i64 20] w1 fun e w' => e = .returned (.int .i64 0) ∧ Mine w w' w.heap.size 0 2 [ta, tb] from
    mine_add_ok h 7 20 (by simp [ta]) (by decide) (by decide) (by decide) (by decide) (by decide))
  have a3 := Lib.hid (fun (w1 : World) (h : Mine w w1 w.heap.size 0 2 [ta, tb]) => show Calls Try.prog 12 #[.pointer (some ⟨w.heap.size, 0, none⟩), .int .u64 5, .int .i64 1] w1 fun e w' => e = .returned (.int .i64 3) ∧ Mine w w' w.heap.size 0 2 [ta, tb] from
    mine_add_there h ta (by simp) 1 (by decide) (by decide))
  have a4 := Lib.hid (fun (w1 : World) (h : Mine w w1 w.heap.size 0 2 [ta, tb]) => show Calls Try.prog 23 #[.pointer (some ⟨w.heap.size, 0, none⟩), .int .u64 7] w1 fun e w' => e = .returned (.tuple #[.int .i64 1, .int .i64 2, .bool true]) ∧ Mine w w' w.heap.size 0 2 [ta, tb] from
    mine_where_yes h tb (by simp))
  have t1 := Lib.hid (fun (w1 : World) (h : Mine w w1 w.heap.size 0 2 [ta, tb]) => show Calls Try.prog 18 #[.pointer (some ⟨w.heap.size, 0, none⟩)] w1 fun e w' => ∃ v, e = .returned v ∧ Hid (w'.ownsRow w1.heap.size 30 1 v 0 []) ∧ Mine w w' w.heap.size 1 2 [ta, tb] from mine_tick h (by decide))
  have t2 := Lib.hid (fun (w1 : World) (h : Mine w w1 w.heap.size 1 2 [ta, tb]) => show Calls Try.prog 18 #[.pointer (some ⟨w.heap.size, 0, none⟩)] w1 fun e w' => ∃ v, e = .returned v ∧ Hid (w'.ownsRow w1.heap.size 30 1 v 0 []) ∧ Mine w w' w.heap.size 2 2 [ta, tb] from mine_tick h (by decide))
  have t3 := Lib.hid (fun (w1 : World) (h : Mine w w1 w.heap.size 2 2 [ta, tb]) => show Calls Try.prog 18 #[.pointer (some ⟨w.heap.size, 0, none⟩)] w1 fun e w' => ∃ v, e = .returned v ∧ Hid (w'.ownsRow w1.heap.size 30 1 v 1 [.int .u64 5]) ∧ Mine w w' w.heap.size 3 2 [tb] from mine_tick h (by decide))
  have n1 := Lib.hid (fun (w1 : World) (h : Mine w w1 w.heap.size 3 2 [tb]) => show Calls Try.prog 19 #[.pointer (some ⟨w.heap.size, 0, none⟩)] w1 fun e w' => e = .returned (.int .i64 3) ∧ Mine w w' w.heap.size 3 2 [tb] from mine_now h)
  have n2 := Lib.hid (fun (w1 : World) (h : Mine w w1 w.heap.size 3 2 [tb]) => show Calls Try.prog 20 #[.pointer (some ⟨w.heap.size, 0, none⟩)] w1 fun e w' => e = .returned (.int .i64 1) ∧ Mine w w' w.heap.size 3 2 [tb] from mine_len h)
  have a0 := Lib.hid (mine_new w w (Only.refl _ _))
  generalize w.heap.size = B at *
  go_enter Try.func9, Try.ntmps9
  go_wp2_with (first
    | (go_at_call 10; (with_reducible refine a0.out.mono ?_); rintro e w1 ⟨rfl, h⟩; have m1 := Lib.hid h; clear h)
    | (go_at_call 12; (with_reducible refine (a1.out _ m1.out).mono ?_); rintro e w2 ⟨rfl, h⟩; have m2 := Lib.hid h; clear h)
    | (go_at_call 12; (with_reducible refine (a2.out _ m2.out).mono ?_); rintro e w3 ⟨rfl, h⟩; have m3 := Lib.hid h; clear h)
    | (go_at_call 12; (with_reducible refine (a3.out _ m3.out).mono ?_); rintro e w4 ⟨rfl, h⟩; have m4 := Lib.hid h; clear h)
    | (go_at_call 23; (with_reducible refine (a4.out _ m4.out).mono ?_); rintro e w5 ⟨rfl, h⟩; have m5 := Lib.hid h; clear h))
  go_loopw [5, 6] (fun s5 s6 wr => (s5 = .int .i64 0 ∧ s6 = .int .i64 0 ∧ Hid (Mine w wr B 0 2 [ta, tb])) ∨ (s5 = .int .i64 0 ∧ s6 = .int .i64 1 ∧ Hid (Mine w wr B 1 2 [ta, tb])) ∨ (s5 = .int .i64 0 ∧ s6 = .int .i64 2 ∧ Hid (Mine w wr B 2 2 [ta, tb])) ∨ (s5 = .int .i64 1 ∧ s6 = .int .i64 3 ∧ Hid (Mine w wr B 3 2 [tb])))
    (fun _ s6 _ => 3 - (intOf s6).toNat)
  case atStart => exact .inl ⟨rfl, rfl, m5⟩
  case round =>
    rcases hrel with ⟨rfl, rfl, hm⟩ | ⟨rfl, rfl, hm⟩ | ⟨rfl, rfl, hm⟩ | ⟨rfl, rfl, hm⟩
    · go_wp2_with (go_at_call 18; (with_reducible refine (t1.out _ hm.out).mono ?_); rintro e w6 ⟨v6, rfl, h6, h⟩; have m6 := Lib.hid h; clear h; obtain ⟨a6, c6, rfl⟩ := own_slice_n h6.out)
      go_roundw
      case rel => exact .inr (.inl ⟨rfl, rfl, m6⟩)
      case measure => simp [intOf]
    · go_wp2_with (go_at_call 18; (with_reducible refine (t2.out _ hm.out).mono ?_); rintro e w6 ⟨v6, rfl, h6, h⟩; have m6 := Lib.hid h; clear h; obtain ⟨a6, c6, rfl⟩ := own_slice_n h6.out)
      go_roundw
      case rel => exact .inr (.inr (.inl ⟨rfl, rfl, m6⟩))
      case measure => simp [intOf]
    · go_wp2_with (go_at_call 18; (with_reducible refine (t3.out _ hm.out).mono ?_); rintro e w6 ⟨v6, rfl, h6, h⟩; have m6 := Lib.hid h; clear h; obtain ⟨a6, c6, rfl⟩ := own_slice_n h6.out)
      go_roundw
      case rel => exact .inr (.inr (.inr ⟨rfl, rfl, m6⟩))
      case measure => simp [intOf]
    · go_wp2_with (first
        | (go_at_call 19; (with_reducible refine (n1.out _ hm.out).mono ?_); rintro e w7 ⟨rfl, h⟩; have m7 := Lib.hid h; clear h)
        | (go_at_call 20; (with_reducible refine (n2.out _ m7.out).mono ?_); rintro e w8 ⟨rfl, h⟩; have m8 := Lib.hid h; clear h))
      go_ret
      exact ⟨rfl, m8.out.only⟩
end Go.Proofs.Ytpmgmdlfnlmieaa.Wh
