/- wheel, the document's: a list of timers as two rows; At, Where, Same. -/
import Derived.Test.YtpmgmdlfnlmieaaWhR
import Derived.Test.YtpmgmdlfnlmieaaWhL
namespace Go.Proofs.Ytpmgmdlfnlmieaa.Wh
open Go.RowKit Go.Proofs.Ytpmgmdlfnlmieaa

/-- Due ticks as cells. -/
def dues (L : List Tm) : List Value := L.map fun t => .int .i64 (t.due : Int)
theorem ids_append (L M : List Tm) : ids (L ++ M) = ids L ++ ids M := by simp [ids]
theorem dues_append (L M : List Tm) : dues (L ++ M) = dues L ++ dues M := by simp [dues]
theorem ids_one (L : List Tm) : ∀ v ∈ ids L, v.oneCell' = true := by
  intro v hv
  simp only [ids, List.mem_map] at hv
  obtain ⟨t, _, rfl⟩ := hv; rfl
theorem dues_one (L : List Tm) : ∀ v ∈ dues L, v.oneCell' = true := by
  intro v hv
  simp only [dues, List.mem_map] at hv
  obtain ⟨t, _, rfl⟩ := hv; rfl

/-- A row made of timers, opened. -/
theorem map_in {w : World} {base : Nat} {e : TypeId} {a : Option Addr} {n c : Nat} {M : List Tm} {f : Tm → Value} (h : w.ownsRow base e 1 (.slice a n c) n (M.map f)) (q : Nat) (hq : q < n) :
    ∃ g, a = some ⟨g, 0, none⟩ ∧ g < w.heap.size ∧ w.cell? ⟨g, q, none⟩ = some (f (M.getD q default)) := by
  have hl : M.length = n := by have := h.1; simp at this; exact this
  rcases h.2 with ⟨_, h0⟩ | ⟨g, c', cur, hv, _, hg, _⟩
  · omega
  · simp only [Value.slice.injEq] at hv
    obtain ⟨rfl, _, rfl⟩ := hv
    refine ⟨g, rfl, lt_of_block hg, ?_⟩
    rw [h.cellAt q (by omega)]
    simp [hl, hq]

/-- The rows i and d hold the ids and the due ticks of L; no block of S is theirs. -/
structure Rw (w : World) (S : Nat → Prop) (i d : Value) (L : List Tm) : Prop where
  ri : w.ownsRow 0 30 1 i L.length (ids L)
  rd : w.ownsRow 0 3 1 d L.length (dues L)
  oi : ∀ k, i.ownBlock = some k → ¬ S k
  od : ∀ k, d.ownBlock = some k → ¬ S k
section
variable {w w' : World} {S : Nat → Prop} {i d : Value} {L : List Tm}
theorem Rw.nil (h : Rw w S i d L) (o : Only Nil w w') : Rw w' S i d L :=
  ⟨own_keep h.ri o (fun _ _ h => h), own_keep h.rd o (fun _ _ h => h), h.oi, h.od⟩
theorem Rw.keep (h : Rw w S i d L) (o : Only S w w') : Rw w' (Plus S w w') i d L :=
  ⟨own_keep h.ri o (fun k hk => h.oi k hk.symm), own_keep h.rd o (fun k hk => h.od k hk.symm),
   fun k hk hp => by
    rcases hp with hp | hp
    · exact h.oi k hk hp
    · have := (h.ri.lt k hk).2; omega,
   fun k hk hp => by
    rcases hp with hp | hp
    · exact h.od k hk hp
    · have := (h.rd.lt k hk).2; omega⟩
theorem Rw.zero (w : World) (S : Nat → Prop) : Rw w S (.slice none 0 0) (.slice none 0 0) [] :=
  ⟨World.ownsRow_nil _ _ _ _, World.ownsRow_nil _ _ _ _, fun k h => by simp [Value.ownBlock] at h, fun k h => by simp [Value.ownBlock] at h⟩
end

set_option maxHeartbeats 1000000 in
theorem at_yes {w : World} {S : Nat → Prop} {i d : Value} {L : List Tm} (h : Rw w S i d L) (few : L.length ≤ 64) (now p : Nat) (hp : p < L.length) (hf : ∀ q, q < p → (L.getD q default).id ≠ (L.getD p default).id) :
    Calls Try.prog 25 #[.agg #[.int .i64 (now : Int), i, d], .int .u64 ((L.getD p default).id : Int)] w fun e w' => e = .returned (.int .i64 (p : Int)) ∧ Only Nil w w' := by
  obtain ⟨a, c, rfl⟩ := own_slice_n h.ri
  have hr := Lib.hid (show (w.alloc (.cells #[.int .i64 (now : Int), .slice a L.length c, d] 29)).ownsRow 0 30 1 (.slice a L.length c) L.length (L.map fun t => .int .u64 (t.id : Int)) from own_keep h.ri ((Only.refl Nil w).alloc _) (fun _ _ h => h))
  have hf' := Lib.hid hf
  have oo := Lib.hid ((Only.refl Nil w).alloc (.cells #[.int .i64 (now : Int), .slice a L.length c, d] 29))
  clear h hf
  generalize hx : (L.getD p default).id = x at *
  have hx' := Lib.hid hx
  clear hx
  generalize L.length = n at *
  have hn64 : (n : Int) ≤ 64 := by omega
  go_enter Try.func25, Try.ntmps25
  go_wp2
  go_loop [5] (fun s5 => ∃ (q : Nat), q ≤ p ∧ s5 = .int .i64 (q : Int)) (fun s5 => p - (intOf s5).toNat)
  case atStart => exact ⟨0, by omega, rfl⟩
  case round =>
    obtain ⟨q, hq, rfl⟩ := hrel
    obtain ⟨g, rfl, hg, c0⟩ := map_in hr.out q (by omega)
    have hqn : (q : Int) < (n : Int) := by omega
    by_cases e : q = p
    · subst e
      rw [hx'.out] at c0
      clear hq hp
      go_wp2
      go_ret
      exact ⟨rfl, oo.out⟩
    · have hne := hf'.out q (by omega)
      generalize (L.getD q default).id = y at *
      have hne' : ((y : Int) == (x : Int)) = false := by rw [beq_eq_false_iff_ne]; omega
      have hqs := Lib.hid (show q + 1 ≤ p ∧ q < p by omega)
      clear hne e hq hp
      go_wp2
      go_round
      case rel => exact ⟨q + 1, hqs.out.1, by go_num⟩
      case measure => have := hqs.out; simp [intOf]; omega

set_option maxHeartbeats 1000000 in
theorem at_no {w : World} {S : Nat → Prop} {i d : Value} {L : List Tm} (h : Rw w S i d L) (few : L.length ≤ 64) (now x : Nat) (hf : ∀ t ∈ L, t.id ≠ x) :
    Calls Try.prog 25 #[.agg #[.int .i64 (now : Int), i, d], .int .u64 (x : Int)] w fun e w' => e = .returned (.int .i64 (-1)) ∧ Only Nil w w' := by
  obtain ⟨a, c, rfl⟩ := own_slice_n h.ri
  have hr := Lib.hid (show (w.alloc (.cells #[.int .i64 (now : Int), .slice a L.length c, d] 29)).ownsRow 0 30 1 (.slice a L.length c) L.length (L.map fun t => .int .u64 (t.id : Int)) from own_keep h.ri ((Only.refl Nil w).alloc _) (fun _ _ h => h))
  have hf' := Lib.hid (fun q (hq : q < L.length) => show (L.getD q default).id ≠ x from by
    have e : L.getD q default = L[q] := by simp [hq]
    rw [e]; exact hf _ (List.getElem_mem hq))
  have oo := Lib.hid ((Only.refl Nil w).alloc (.cells #[.int .i64 (now : Int), .slice a L.length c, d] 29))
  clear h hf
  generalize L.length = n at *
  have hn64 : (n : Int) ≤ 64 := by omega
  go_enter Try.func25, Try.ntmps25
  go_wp2
  go_loop [5] (fun s5 => ∃ (q : Nat), q ≤ n ∧ s5 = .int .i64 (q : Int)) (fun s5 => n - (intOf s5).toNat)
  case atStart => exact ⟨0, by omega, rfl⟩
  case round =>
    obtain ⟨q, hq, rfl⟩ := hrel
    by_cases hqn : q < n
    · obtain ⟨g, rfl, hg, c0⟩ := map_in hr.out q hqn
      have hqi : (q : Int) < (n : Int) := by omega
      have hne := hf'.out q hqn
      generalize (L.getD q default).id = y at *
      have hne' : ((y : Int) == (x : Int)) = false := by rw [beq_eq_false_iff_ne]; omega
      have hqs := Lib.hid hqn
      clear hne hq hqn
      go_wp2
      go_round
      case rel => exact ⟨q + 1, hqs.out, by go_num⟩
      case measure => have := hqs.out; simp [intOf]; omega
    · obtain rfl : q = n := by omega
      have hk0 : ¬ (q : Int) < (q : Int) := by omega
      go_wp2
      go_ret
      exact ⟨rfl, oo.out⟩

/-- At, of a timer. -/
theorem at_mem {w : World} {S : Nat → Prop} {i d : Value} {L : List Tm} (h : Rw w S i d L) (few : L.length ≤ 64) (hn : (L.map (·.id)).Nodup) (now : Nat) (t : Tm) (ht : t ∈ L) :
    ∃ p, p < L.length ∧ L.getD p default = t ∧ Calls Try.prog 25 #[.agg #[.int .i64 (now : Int), i, d], .int .u64 (t.id : Int)] w fun e w' => e = .returned (.int .i64 (p : Int)) ∧ Only Nil w w' := by
  obtain ⟨p, hp, e⟩ := List.mem_iff_getElem.1 ht
  have e1 : L.getD p default = t := by simp [hp, e]
  refine ⟨p, hp, e1, ?_⟩
  have := at_yes h few now p hp (fun q hq he => by
    have hq' : q < L.length := by omega
    have e2 : L.getD q default = L[q] := by simp [hq']
    have e3 : L.getD p default = L[p] := by simp [hp]
    rw [e2, e3] at he
    have h1 : q < (L.map (·.id)).length := by simpa using hq'
    have h2 : p < (L.map (·.id)).length := by simpa using hp
    have := (List.getElem_inj (h₀ := h1) (h₁ := h2) hn).1 (by simpa using he)
    omega)
  rwa [e1] at this

set_option maxHeartbeats 1000000 in
theorem rdigit_any (x l : Nat) (hl : l ≤ 3) (hx : x < 1099511627776) (w : World) :
    Calls Try.prog 41 #[.int .i64 (x : Int), .int .i64 (l : Int)] w fun e w' => e = .returned (.int .i64 (dig x l : Nat)) ∧ w = w' := by
  have hpw : ∀ q, q < 3 → x / pw (q + 1) = x / pw q / 8 := by
    intro q hq
    have : q = 0 ∨ q = 1 ∨ q = 2 := by omega
    rcases this with rfl | rfl | rfl <;> simp only [pw] <;> omega
  have hle : ∀ q, x / pw q < 1099511627776 := fun q => Nat.lt_of_le_of_lt (Nat.div_le_self _ _) hx
  have hpw' := Lib.hid hpw
  have hle' := Lib.hid hle
  have h0 : Hid (x / pw 0 = x) := Lib.hid (by simp only [pw]; omega)
  have hdig : Hid (dig x l = x / pw l % 8) := Lib.hid rfl
  clear hpw hle hx
  go_enter Try.func41, Try.ntmps41
  go_wp2
  go_loop [0, 5] (fun s0 s5 => ∃ (q : Nat), q ≤ l ∧ s5 = .int .i64 (q : Int) ∧ s0 = .int .i64 (x / pw q : Nat)) (fun _ s5 => l - (intOf s5).toNat)
  case atStart => exact ⟨0, by omega, rfl, by rw [h0.out]⟩
  case round =>
    obtain ⟨q, hq, rfl, rfl⟩ := hrel
    have hb := hle'.out q
    by_cases hql : q < l
    · have e := Lib.hid (hpw'.out q (by omega))
      generalize hy1 : x / pw (q + 1) = y1 at *
      have hy1' := Lib.hid hy1
      clear hy1
      generalize x / pw q = y at *
      have hyi : (y : Int) < 1099511627776 := by omega
      have hqi : (q : Int) < (l : Int) := by omega
      have hq3 : (q : Int) < 3 := by omega
      have hqs := Lib.hid hql
      clear hb hq hql
      go_wp2
      go_round
      case rel => exact ⟨q + 1, hqs.out, by go_num, by rw [hy1'.out, e.out]; go_num⟩
      case measure => have := hqs.out; simp [intOf]; omega
    · obtain rfl : q = l := by omega
      have hk0 : ¬ (q : Int) < (q : Int) := by omega
      have hd := hdig.out
      generalize x / pw q = y at *
      have hyi : (y : Int) < 1099511627776 := by omega
      have hd' := Lib.hid hd
      clear hb hq hql hd
      go_wp2
      go_ret
      exact ⟨by rw [hd'.out]; rfl, rfl⟩
end Go.Proofs.Ytpmgmdlfnlmieaa.Wh
