/- wheel: what is told of a timer is the document's. -/
import Derived.Test.YtpmgmdlfnlmieaaWhTf
namespace Go.Proofs.Ytpmgmdlfnlmieaa.Wh
open Go.RowKit Go.Proofs.Ytpmgmdlfnlmieaa

set_option maxRecDepth 100000 in
set_option maxHeartbeats 4000000 in
theorem told_no {w : World} {S : Nat → Prop} {hb now added : Nat} {i d : Value} {L : List Tm} (h : Wl w S hb now added L) (g : Good now added L) (r : Rw w S i d L) (id : Nat) (hid : ∀ t ∈ L, t.id ≠ id) :
    Calls Try.prog 21 #[.pointer (some ⟨hb, 0, none⟩), .agg #[.int .i64 (now : Int), i, d], .int .u64 (id : Int)] w fun e w' => e = .returned (.bool true) ∧ Only Nil w w' := by
  have c1 := Lib.hid (fun w' (o : Only Nil w w') => at_no (r.nil o) g.few now id hid)
  have c2 := Lib.hid (fun w' (o : Only Nil w w') => due_no (h.nil o) g id hid)
  have c3 := Lib.hid (fun w' (o : Only Nil w w') => where_no (h.nil o) g id hid)
  obtain ⟨a, ca, hi⟩ := own_slice_n r.ri
  obtain ⟨b, cb, hd⟩ := own_slice_n r.rd
  subst hi hd
  have o0 := Lib.hid ((Only.refl Nil w).alloc (.cells #[.int .i64 (now : Int), .slice a L.length ca, .slice b L.length cb] 29))
  clear h g r hid
  generalize L.length = len at *
  go_enter Try.func21, Try.ntmps21
  go_wp2_with (first
    | (go_at_call 25; (with_reducible refine (c1.out _ o0.out).mono ?_); rintro e w1 ⟨rfl, k⟩; have o1 := Lib.hid (o0.out.trans k); clear k)
    | (go_at_call 24; (with_reducible refine (c2.out _ o1.out).mono ?_); rintro e w2 ⟨rfl, k⟩; have o2 := Lib.hid (o1.out.trans k); clear k)
    | (go_at_call 23; (with_reducible refine (c3.out _ o2.out).mono ?_); rintro e w3 ⟨rfl, k⟩; have o3 := Lib.hid (o2.out.trans k); clear k))
  go_ret
  exact ⟨rfl, o3.out⟩

set_option maxRecDepth 100000 in
set_option maxHeartbeats 4000000 in
theorem told_yes {w : World} {S : Nat → Prop} {hb now added : Nat} {i d : Value} {L : List Tm} (h : Wl w S hb now added L) (g : Good now added L) (r : Rw w S i d L) (t : Tm) (ht : t ∈ L) :
    Calls Try.prog 21 #[.pointer (some ⟨hb, 0, none⟩), .agg #[.int .i64 (now : Int), i, d], .int .u64 (t.id : Int)] w fun e w' => e = .returned (.bool true) ∧ Only Nil w w' := by
  have hbx := heap_new w (.cells #[.int .i64 (now : Int), i, d] 29)
  have ob := (Only.refl Nil w).alloc (.cells #[.int .i64 (now : Int), i, d] 29)
  obtain ⟨p, hp, hpt, hat⟩ := at_mem (r.nil ob) g.few g.apart now t ht
  have c1 := Lib.hid hat
  have c2 := Lib.hid (fun w' (o : Only Nil w w') => due_yes (h.nil o) g t ht)
  have c3 := Lib.hid (fun w' (o : Only Nil w w') => where_yes (h.nil o) g t ht)
  have c4 := Lib.hid (fun w' => rwhere_any now t.due g.now (by have := g.time t ht; have := g.now; omega) w')
  obtain ⟨a, ca, hi⟩ := own_slice_n r.ri
  obtain ⟨b, cb, hd⟩ := own_slice_n r.rd
  have hrd := Lib.hid (fun (w' : World) (o : Only Nil w w') => own_keep r.rd o (fun _ _ h => h))
  have hp64 : (p : Int) < 64 := by have := g.few; omega
  have hp0 : decide ((p : Int) < 0) = false := decide_eq_false (by omega)
  have hpl : (p : Int) < (L.length : Int) := by omega
  have hpl' := Lib.hid hp
  have hpt' := Lib.hid hpt
  rw [hd] at hrd
  have hbx' := Lib.hid hbx
  have o0 := Lib.hid ob
  rw [hi, hd] at c1 hbx' o0
  subst hi hd
  clear h g r ht hat hp hpt hbx ob
  generalize lev now t.due = l at *
  generalize dig t.due l = dd at *
  generalize hlen : L.length = len at *
  go_enter Try.func21, Try.ntmps21
  go_wp2_with (first
    | (go_at_call 25; (with_reducible refine c1.out.mono ?_); rintro e w1 ⟨rfl, k⟩; have b1 := Lib.hid ((k.block _ (lt_of_block hbx'.out) (fun h => h.elim)).trans hbx'.out); have o1 := Lib.hid (o0.out.trans k); clear k)
    | (go_at_call 24; (with_reducible refine (c2.out _ o1.out).mono ?_); rintro e w2 ⟨rfl, k⟩; have b2 := Lib.hid ((k.block _ (lt_of_block b1.out) (fun h => h.elim)).trans b1.out); have o2 := Lib.hid (o1.out.trans k); clear k)
    | (go_at_call 23; (with_reducible refine (c3.out _ o2.out).mono ?_); rintro e w3 ⟨rfl, k⟩; have b3 := Lib.hid ((k.block _ (lt_of_block b2.out) (fun h => h.elim)).trans b2.out); have o3 := Lib.hid (o2.out.trans k); clear k))
  obtain ⟨u0, u1, u2, _, _, _, u3⟩ := tri_of b3.out
  obtain ⟨g2, hg2, l2, d0⟩ := map_in (hrd.out _ o3.out) p hpl'.out
  subst hg2
  rw [hpt'.out] at d0
  have b3' := b3
  go_quiet ((go_at_call 34; exact quiet_same (c4.out _)))
  go_wp2
  go_ret
  exact ⟨rfl, o3.out.drewN _⟩

/-- What is told of an id is the document's, whatever the id. -/
theorem told_any {w : World} {S : Nat → Prop} {hb now added : Nat} {i d : Value} {L : List Tm} (h : Wl w S hb now added L) (g : Good now added L) (r : Rw w S i d L) (id : Nat) :
    Calls Try.prog 21 #[.pointer (some ⟨hb, 0, none⟩), .agg #[.int .i64 (now : Int), i, d], .int .u64 (id : Int)] w fun e w' => e = .returned (.bool true) ∧ Only Nil w w' := by
  by_cases hid : ∀ t ∈ L, t.id ≠ id
  · exact told_no h g r id hid
  · obtain ⟨t, ht, rfl⟩ : ∃ t ∈ L, t.id = id := by
      apply Classical.byContradiction
      intro hn
      exact hid (fun t ht e => hn ⟨t, ht, e⟩)
    exact told_yes h g r t ht
end Go.Proofs.Ytpmgmdlfnlmieaa.Wh
