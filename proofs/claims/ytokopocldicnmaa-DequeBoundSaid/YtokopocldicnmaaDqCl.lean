/- A gang at a deque: the owner begins. -/
import Derived.Test.YtokopocldicnmaaDqCe
namespace Go.Proofs.Ytokopocldicnmaa.Dq
open Go.RowKit
section
variable {w1 w w4 : World} {rg B base c gb tb K : Nat} {L : List Int} {t : Int} {T X : Nat} {f : Nat → Int} {ow : Option OS} {th : Nat → Option OS} {ob : Nat → Nat} {psh : Bool} {nx : Nat} {iv : Nat → Value} {ins : Nat → List Int} {lost most : Int}

/-- The owner's pop that has begun. -/
theorem Gg.begunP (h : Gg w1 w rg B base c gb tb K L t T X f ow th ob psh nx iv ins lost most) (e : ow = none) {ob' : Nat → Nat}
    (k : Gw w1 w4 rg B base c gb tb L t (poG (some .pop0) th ob') false (nx : Int) iv ins lost most) : Gg w1 w4 rg B base c gb tb K L t T X f (some .pop0) th ob' false nx iv ins lost most := by
  subst e
  exact { h with gw := k, di := { h.di with own := h.di.own, inr := h.di.inr, n1 := ⟨h.di.n1.1, fun q => by simp [pushing] at q⟩ }, ps := fun _ _ => rfl }
/-- The owner's push that has begun. -/
theorem Gg.begunQ (h : Gg w1 w rg B base c gb tb K L t T X f ow th ob psh nx iv ins lost most) (hK : K + 1 ≤ 100000) (e : ow = none) {ob' : Nat → Nat}
    (k : Gw w1 w4 rg B base c gb tb L t (poG (some (.push0 ((nx + 1 : Nat) : Int))) th ob') true ((nx + 1 : Nat) : Int) iv ins lost most) : Gg w1 w4 rg B base c gb tb (K + 1) L t T X f (some (.push0 ((nx + 1 : Nat) : Int))) th ob' true (nx + 1) iv ins lost most := by
  subst e
  have hd := h.di
  refine ⟨k, { hd with own := ⟨hd.own, rfl⟩, inr := fun v hv => ⟨(hd.inr v hv).1, ?_⟩, n1 := ⟨by omega, fun _ => by omega⟩ }, fun _ _ => rfl, h.ms, ⟨h.lo.1, by have := h.lo.2; omega⟩, by have := h.tm; omega, by have := h.nxb; omega, fun q => by have := h.inb q; omega, by have := h.xb; omega, h.hc, hK⟩
  have h2 := (hd.inr v hv).2
  have e1 : lim (nx : Int) none = nx := rfl
  have e2 : lim ((nx + 1 : Nat) : Int) (some (.push0 ((nx + 1 : Nat) : Int))) = ((nx + 1 : Nat) : Int) - 1 := rfl
  rw [e1] at h2
  rw [e2]
  omega

set_option maxRecDepth 100000 in
set_option maxHeartbeats 8000000 in
theorem cown_beginP (h : Gg w1 w rg B base c gb tb K L t T X f ow th ob psh nx iv ins lost most) (e : ow = none) :
    Calls Try.prog 50 #[.pointer (some ⟨gb, 0, none⟩), .int .i64 1] w fun e w' => e = .returned (.tuple #[]) ∧ Hid (∃ ob', Gw w1 w' rg B base c gb tb L (t + 1) (poG (some (.pop1 X)) th ob') false (nx : Int) iv ins lost most) := by
  have h' := Lib.hid h
  have e' := Lib.hid e
  have c1 := h.c1n e
  have c0 := (h.gw.cell 0 (by decide)).1
  obtain ⟨c2, f2⟩ := h.gw.cell 2 (by decide)
  simp only [gf] at c0 c2
  have m2 := Lib.hid (h.gw.setPush false)
  have ho := Lib.hid (show stepS 0 c L .pop0 = .pop1 (X : Int) from by
    have := h.di.own
    subst e
    show OS.pop1 (L.getD (0 + 1) 0) = _
    rw [Nat.zero_add, show L.getD 1 0 = (X : Int) from this])
  clear h e
  go_enter Try.func50, Try.ntmps50
  go_wp2_with (first
    | (go_at_call 48
       clear c1 c0 c2 f2
       generalize w.setCell { block := gb, off := 2 } (Value.bool false) = w2 at *
       refine (m2.out.core.lw.pop).mono ?_
       rintro e w3 ⟨rfl, l3, q3, o3, z3⟩
       have m3 := m2.out.nil o3
       obtain ⟨k1, kf⟩ := m3.cell 1 (by decide)
       have k2 := (m3.cell 2 (by decide)).1
       simp only [gf] at k1 k2
       have m4 := m2.out.begin0 q3 o3
       rw [poG_new0] at m4
       have r4 := Lib.hid (h'.out.begunP e'.out m4)
       clear l3 q3 o3 z3 m3 m4)
    | (go_at_call 53
       clear k1 kf k2
       generalize w3.setCell { block := gb, off := 1 } (Value.pointer (some { block := w2.heap.size, off := 0 })) = w5 at *
       have sp := Lib.hid (r4.out.step0 rfl)
       rw [ho.out, upd_same] at sp
       (with_reducible refine (sp.out).mono ?_)
       rintro e w6 ⟨rfl, k6⟩))
  (try simp only [Exit.inBlock, Exit.then])
  refine bodyPost_ret (results_none rfl _ _ _) rfl ?_
  exact ⟨rfl, Lib.hid ⟨_, k6.out.2⟩⟩

set_option maxRecDepth 100000 in
set_option maxHeartbeats 8000000 in
theorem cown_beginQ (h : Gg w1 w rg B base c gb tb K L t T X f ow th ob psh nx iv ins lost most) (hK : K + 1 ≤ 100000) (e : ow = none) :
    Calls Try.prog 50 #[.pointer (some ⟨gb, 0, none⟩), .int .i64 0] w fun e w' => e = .returned (.tuple #[]) ∧ Hid (∃ ob', Gw w1 w' rg B base c gb tb L (t + 1) (poG (some (.push1 ((nx + 1 : Nat) : Int) X)) th ob') true ((nx + 1 : Nat) : Int) iv ins lost most) := by
  have h' := Lib.hid h
  have e' := Lib.hid e
  have hK' := Lib.hid hK
  have c1 := h.c1n e
  have c0 := (h.gw.cell 0 (by decide)).1
  obtain ⟨c2, f2⟩ := h.gw.cell 2 (by decide)
  simp only [gf] at c0 c2
  have m2 := Lib.hid (h.gw.setPush true)
  have ho := Lib.hid (show stepS 0 c L (.push0 ((nx + 1 : Nat) : Int)) = .push1 ((nx + 1 : Nat) : Int) (X : Int) from by
    have := h.di.own
    subst e
    show OS.push1 _ (L.getD (0 + 1) 0) = _
    rw [Nat.zero_add, show L.getD 1 0 = (X : Int) from this])
  have nb := Lib.hid (h.nxb)
  have kb := Lib.hid h.kb
  clear h e hK
  generalize hv : ((nx + 1 : Nat) : Int) = v at *
  have hv' := Lib.hid hv
  have hw : IntKind.u64.wrap ((nx : Int) + 1) = v := by have := nb.out; have := kb.out; rw [IntKind.wrap_u64]; omega
  have hv64 : In64 v := by have := nb.out; have := kb.out; unfold In64; omega
  clear hv
  go_enter Try.func50, Try.ntmps50
  go_wp2_with (first
    | (go_at_call 48
       clear c1 c0 c2 f2
       generalize w.setCell { block := gb, off := 2 } (Value.bool true) = w2 at *
       refine (m2.out.core.lw.pop).mono ?_
       rintro e w3 ⟨rfl, l3, q3, o3, z3⟩
       have m3 := m2.out.nil o3
       obtain ⟨k1, kf⟩ := m3.cell 1 (by decide)
       have k2 := (m3.cell 2 (by decide)).1
       obtain ⟨k3, kf3⟩ := m3.cell 3 (by decide)
       simp only [gf] at k1 k2 k3
       have m4 := m2.out.begin0 q3 o3
       rw [poG_new0] at m4
       have m5 := Lib.hid (m4.setNext v)
       clear l3 q3 o3 z3 m3 m4))
  clear k1 kf k2 k3 kf3
  generalize (w3.setCell { block := gb, off := 1 } (Value.pointer (some { block := w2.heap.size, off := 0 }))).setCell { block := gb, off := 3 } (Value.int IntKind.u64 v) = w5 at *
  have c0 := (m5.out.cell 0 (by decide)).1
  have c3 := (m5.out.cell 3 (by decide)).1
  simp only [gf] at c0 c3
  have pp := Lib.hid (fun n => (m5.out.drewN n).core.lw.push v hv64)
  go_region_held3 (fun w' => w'.cell? ⟨gb, 0, none⟩ = some (.pointer (some ⟨rg, 0, none⟩)) ∧ w'.cell? ⟨gb, 3, none⟩ = some (.int .u64 v))
    (first | exact ⟨c0, c3⟩ | exact ⟨k0, k3⟩ | exact ⟨j0, j3⟩ | go_keep)
    (first
      | (go_at_call 18; refine (pp.out _).mono ?_; rintro e w6 ⟨rfl, l3, q3, o3, z3⟩; have m6 := (m5.out.drewN _).nil o3; obtain ⟨k1, kf⟩ := m6.cell 1 (by decide); have k0 := (m6.cell 0 (by decide)).1; have k3 := (m6.cell 3 (by decide)).1; simp only [gf] at k0 k1 k3; have m7 := (m5.out.drewN _).begin0 q3 o3; have j0 := (m7.cell 0 (by decide)).1; have j3 := (m7.cell 3 (by decide)).1; simp only [gf] at j0 j3))
  have m8 : Gw w1 (w6.setCell { block := gb, off := 1 } (Value.pointer (some { block := w5.heap.size, off := 0 }))) rg B base c gb tb L t (upd (poG (some .pop0) th (upd ob 0 w2.heap.size)) 0 (some (w5.heap.size, .push0 v))) true v iv ins lost most := m7
  rw [poG_new0, ← hv'.out] at m8
  have r4 := h'.out.begunQ hK'.out e'.out m8
  have sp := Lib.hid (r4.step0 rfl)
  rw [hv'.out, ho.out, upd_same] at sp
  have pc := r4.c1 rfl
  rw [upd_same] at pc
  clear c0 c3 k0 k1 k3 kf j0 j3 m6 m7 m8 r4 l3 q3 o3 z3
  generalize w6.setCell { block := gb, off := 1 } (Value.pointer (some { block := w5.heap.size, off := 0 })) = w7 at *
  go_wp2_with (go_at_call 53; (with_reducible refine (sp.out).mono ?_); rintro e w8 ⟨rfl, k8⟩)
  (try simp only [Exit.inBlock, Exit.then])
  refine bodyPost_ret (results_none rfl _ _ _) rfl ?_
  exact ⟨rfl, Lib.hid ⟨_, k8.out.2⟩⟩
end
end Go.Proofs.Ytokopocldicnmaa.Dq
