/- wheel: Add. -/
import Derived.Test.YtpmgmdlfnlmieaaWhJ
namespace Go.Proofs.Ytpmgmdlfnlmieaa.Wh
open Go.RowKit Go.Proofs.Ytpmgmdlfnlmieaa

theorem add_bad (a : Option Addr) (id d : Int) (hd : d < 1 ∨ 4095 < d) (w : World) :
    Calls Try.prog 12 #[.pointer a, .int .u64 id, .int .i64 d] w fun e w' => e = .returned (.int .i64 1) ∧ w = w' := by
  by_cases h1 : d < 1
  · clear hd
    go_enter Try.func12, Try.ntmps12
    go_wp2
    go_ret
    exact ⟨rfl, rfl⟩
  · have h2 : 4095 < d := by omega
    clear hd
    go_enter Try.func12, Try.ntmps12
    go_wp2
    go_ret
    exact ⟨rfl, rfl⟩

theorem add_there {w : World} {S : Nat → Prop} {hb now added : Nat} {L : List Tm} (h : Wl w S hb now added L) (g : Good now added L) (t : Tm) (ht : t ∈ L) (d : Int) (h1 : 1 ≤ d) (h2 : d ≤ 4095) :
    Calls Try.prog 12 #[.pointer (some ⟨hb, 0, none⟩), .int .u64 (t.id : Int), .int .i64 d] w fun e w' => e = .returned (.int .i64 3) ∧ Only Nil w w' := by
  have hf := Lib.hid (find_yes h g t ht)
  unfold FRes at hf
  have h3 : ¬ (d < 1) := by omega
  have h4 : ¬ (4095 < d) := by omega
  clear h g ht h1 h2
  go_enter Try.func12, Try.ntmps12
  go_wp2_with (go_at_call 26; (with_reducible refine hf.out.mono ?_); rintro e w1 ⟨i, rfl, _, o1⟩; have q1 := Lib.hid o1; clear o1)
  go_ret
  exact ⟨rfl, (q1.out.alloc _).alloc _⟩

theorem add_full {w : World} {S : Nat → Prop} {hb now added : Nat} {L : List Tm} (h : Wl w S hb now added L) (g : Good now added L) (id : Nat) (hid : ∀ t ∈ L, t.id ≠ id) (hl : L.length = 64) (d : Int) (h1 : 1 ≤ d) (h2 : d ≤ 4095) :
    Calls Try.prog 12 #[.pointer (some ⟨hb, 0, none⟩), .int .u64 (id : Int), .int .i64 d] w fun e w' => e = .returned (.int .i64 4) ∧ Only Nil w w' := by
  have hf := Lib.hid (find_no h g id hid)
  have hln := Lib.hid (fun w' (o : Only Nil w w') => wlen (h.nil o) g)
  rw [hl] at hln
  unfold FRes at hf
  have h3 : ¬ (d < 1) := by omega
  have h4 : ¬ (4095 < d) := by omega
  clear h g hid hl h1 h2
  go_enter Try.func12, Try.ntmps12
  go_wp2_with (first
    | (go_at_call 26; (with_reducible refine hf.out.mono ?_); rintro e w1 ⟨rfl, o1⟩; have q1 := Lib.hid o1; clear o1)
    | (go_at_call 20; (with_reducible refine (hln.out _ ((q1.out.alloc _).alloc _)).mono ?_); rintro e w2 ⟨rfl, o2⟩; have q2 := Lib.hid (((q1.out.alloc _).alloc _).trans o2); clear o2))
  go_ret
  exact ⟨rfl, q2.out⟩

section
variable {w : World} {S : Nat → Prop} {hb now added : Nat} {V : Nat → Value} {F : Nat → List Tm}
theorem At.count (h : At w S hb now added V F) (k : Nat) : At (w.setCell ⟨hb, 1, none⟩ (.int .i64 (k : Int))) S hb now k V F ∧ Only (fun k => k = hb) w (w.setCell ⟨hb, 1, none⟩ (.int .i64 (k : Int))) := by
  have o : Only (fun k => k = hb) w (w.setCell ⟨hb, 1, none⟩ (.int .i64 (k : Int))) := (Only.refl (fun k => k = hb) w).setCell (p := ⟨hb, 1, none⟩) rfl _
  refine ⟨⟨?_, fun n hn => own_keep (h.row n hn) o (fun k hk hk2 => (h.own n k hn hk.symm).2 hk2), h.apart, h.own, h.hS, fun k hk => Nat.lt_of_lt_of_le (h.lt k hk) o.size⟩, o⟩
  rw [row_set h.head]
  congr 2
theorem At.tick (h : At w S hb now added V F) (k : Nat) : At (w.setCell ⟨hb, 0, none⟩ (.int .i64 (k : Int))) S hb k added V F ∧ Only (fun k => k = hb) w (w.setCell ⟨hb, 0, none⟩ (.int .i64 (k : Int))) := by
  have o : Only (fun k => k = hb) w (w.setCell ⟨hb, 0, none⟩ (.int .i64 (k : Int))) := (Only.refl (fun k => k = hb) w).setCell (p := ⟨hb, 0, none⟩) rfl _
  refine ⟨⟨?_, fun n hn => own_keep (h.row n hn) o (fun k hk hk2 => (h.own n k hn hk.symm).2 hk2), h.apart, h.own, h.hS, fun k hk => Nat.lt_of_lt_of_le (h.lt k hk) o.size⟩, o⟩
  rw [row_set h.head]
  congr 2
end

theorem slots_append (now : Nat) (L M : List Tm) : slots now (L ++ M) = putAll now (slots now L) M := by funext n; simp [slots, putAll]

/-- The list behind an Add. -/
theorem Good.add {now added : Nat} {L : List Tm} (g : Good now added L) (id d : Nat) (hid : ∀ t ∈ L, t.id ≠ id) (hl : L.length < 64) (h1 : 1 ≤ d) (h2 : d ≤ 4095) (h64 : id < 18446744073709551616) : Good now (added + 1) (L ++ [⟨id, now + d, added⟩]) := by
  refine ⟨?_, by simp; omega, ?_, ?_, ?_, ?_, g.now⟩
  · intro t ht
    rcases List.mem_append.1 ht with h | h
    · exact g.time t h
    · simp at h; subst h; exact ⟨by simp; omega, by simp; omega⟩
  · rw [List.map_append, List.nodup_append]
    refine ⟨g.apart, by simp, ?_⟩
    intro a ha b hb
    simp at hb
    subst hb
    obtain ⟨t, ht, rfl⟩ := List.mem_map.1 ha
    exact hid t ht
  · rw [List.pairwise_append]
    exact ⟨g.order, by simp, fun a ha b hb => by simp at hb; subst hb; exact g.old a ha⟩
  · intro t ht
    rcases List.mem_append.1 ht with h | h
    · have := g.old t h; omega
    · simp at h; subst h; simp
  · intro t ht
    rcases List.mem_append.1 ht with h | h
    · exact g.small t h
    · simp at h; subst h; exact h64

set_option maxRecDepth 100000 in
set_option maxHeartbeats 1000000 in
theorem add_ok {w : World} {S : Nat → Prop} {hb now added : Nat} {L : List Tm} (h : Wl w S hb now added L) (g : Good now added L) (id d : Nat) (hid : ∀ t ∈ L, t.id ≠ id) (hl : L.length < 64) (h1 : 1 ≤ d) (h2 : d ≤ 4095) (ha : added < 1000000000) :
    Calls Try.prog 12 #[.pointer (some ⟨hb, 0, none⟩), .int .u64 (id : Int), .int .i64 (d : Int)] w fun e w' => e = .returned (.int .i64 0) ∧ Wl w' (Plus S w w') hb now (added + 1) (L ++ [⟨id, now + d, added⟩]) ∧ Only S w w' := by
  have hf := Lib.hid (find_no h g id hid)
  have hln := Lib.hid (fun w' (o : Only Nil w w') => wlen (h.nil o) g)
  unfold FRes at hf
  have h3 : ¬ ((d : Int) < 1) := by omega
  have h4 : ¬ (4095 < (d : Int)) := by omega
  have h5 : decide (64 ≤ (L.length : Int)) = false := by simp; omega
  have hsm : ∀ n, n < 32 → (slots now L n).length ≤ 65000 := fun n hn => by have := slot_le (slots now L) n hn; have := all_few g; omega
  have hput := Lib.hid (fun (w' : World) V (h : At w' S hb now added V (slots now L)) => show Calls Try.prog 27 #[.pointer (some ⟨hb, 0, none⟩), .agg #[.int .u64 (id : Int), .int .i64 ((now : Int) + (d : Int)), .int .i64 (added : Int)]] w' fun e w'' =>
      e = .returned (.tuple #[]) ∧ ∃ V', At w'' (Plus S w' w'') hb now added V' (putAll now (slots now L) [⟨id, now + d, added⟩]) ∧ Only S w' w'' from by
    have := put_any h hsm g.now id (now + d) added (by have := g.now; omega)
    rwa [show ((now + d : Nat) : Int) = (now : Int) + (d : Int) by omega] at this)
  have hh := Lib.hid h
  have hSlt := Lib.hid h.lt
  have hnow := g.now
  have hnow' := Lib.hid (show (now : Int) < 1000000000 by omega)
  have ha' := Lib.hid (show (added : Int) < 1000000000 by omega)
  clear h g hid hl h1 h2 hsm hnow ha
  generalize L.length = len at *
  go_enter Try.func12, Try.ntmps12
  go_wp2_with (first
    | (go_at_call 26; (with_reducible refine hf.out.mono ?_); rintro e w1 ⟨rfl, o1⟩; have q1 := Lib.hid o1; clear o1)
    | (go_at_call 20; (with_reducible refine (hln.out _ ((q1.out.alloc _).alloc _)).mono ?_); rintro e w2 ⟨rfl, o2⟩; have q2 := Lib.hid (((q1.out.alloc _).alloc _).trans o2); clear o2))
  have hnow := hnow'.out
  have ha := ha'.out
  clear h5
  obtain ⟨V, hV⟩ := hh.out.nil q2.out
  have c0 := hV.c0
  have c1 := hV.c1
  have hV' := Lib.hid hV
  clear hV
  have hw : IntKind.i64.wrap ((now : Int) + (d : Int)) = (now : Int) + (d : Int) := by rw [IntKind.wrap_i64]; omega
  have hVd := Lib.hid (hV'.out.nil ((Only.refl Nil w2).drew))
  go_region_with (go_at_call 27; (with_reducible refine (hput.out _ V hVd.out).mono ?_); rintro e w3 ⟨rfl, V', h3', o3⟩; have d1 := h3'.c1; have e1 := h3'.fz 1; have l1 := h3'.lt_hb; have k3 := Lib.hid h3'; have q3 := Lib.hid o3; clear h3' o3)
  all_goals
    have fin := k3.out.count (added + 1)
    have fin2 := Lib.hid (fin.1.mono (T := Plus S w (w3.setCell ⟨hb, 1, none⟩ (.int .i64 ((added + 1 : Nat) : Int)))) (fun k hk => hk.imp (fun h => h) (fun h => ⟨by have := q2.out.size; simp at h; omega, by have := fin.2.size; omega⟩)) (fun k hk => by
      rcases hk with hk | hk
      · have := hSlt.out k hk; have := q2.out.size; have := q3.out.size; have := fin.2.size; simp at *; omega
      · exact hk.2))
    have hon := Lib.hid (((q2.out.nilTo S).trans (((Only.refl Nil w2).drew.nilTo S).trans q3.out)).trans (fin.2.mono (fun k hk => by subst hk; exact hh.out.hS)))
    rw [← slots_append] at fin2
    clear fin
    rw [show ((added + 1 : Nat) : Int) = (added : Int) + 1 by omega] at fin2 hon
    clear hw
    go_wp2
    go_ret
    exact ⟨rfl, ⟨V', fin2.out⟩, hon.out⟩
end Go.Proofs.Ytpmgmdlfnlmieaa.Wh
