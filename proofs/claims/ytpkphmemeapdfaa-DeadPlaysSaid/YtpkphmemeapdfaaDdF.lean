/- dead: Put, of a reason: the walk. -/
import Derived.Test.YtpkphmemeapdfaaDdE
namespace Go.Proofs.Ytpkphmemeapdfaa.Dd
open Go.RowKit Go.Proofs.Ytpkphmemeapdfaa Go.Maps

theorem wf_small {x : Int} (h1 : -1000000 ≤ x) (h2 : x ≤ 1000000) : (Lit.int .i64 x).wf = true := by
  simp [Lit.wf, IntKind.min, IntKind.max, IntKind.signed, IntKind.bits]
  omega

set_option maxRecDepth 100000 in
set_option maxHeartbeats 2000000 in
theorem put_ok {w : World} {S : Nat → Prop} {hb mb k : Nat} {D : DataW Unit} {v : Value} {L : List Lr} (h : At w S hb mb k D v L) (t : Lr) (ht : right t.why = true) (few : L.length ≤ 65000) :
    Calls Try.prog 9 #[.pointer (some ⟨hb, 0, none⟩), .int .u64 t.id, .int .i64 t.dst, .int .i64 t.why] w fun e w' => e = .returned (.int .i64 0) ∧ ∃ D' v', At w' (Plus S w w') hb mb k D' v' (L ++ [t]) ∧ Only S w w' := by
  have hr := Lib.hid (by have := isReason_any t.why w; rw [ht] at this; exact this)
  have hwy := (right_iff _).1 ht
  have hkey : keyOf Try.prog 3 (.int .i64 t.why) = some (.int .i64 t.why) := keyOf_int_mk Try.underlying3 (wf_small (by omega) (by omega))
  have hlt := Lib.hid h.lt
  have hc := Lib.hid (show ∀ c : Int, D.atKey (.int .i64 t.why) (.lit (.int .i64 0)) = .lit (.int .i64 c) → c = (cnt L t.why : Nat) from fun c hat => by
    rw [h.dat.cnt] at hat
    injection hat with hat
    injection hat with _ hat
    exact hat.symm)
  have hfin := Lib.hid (fun (D' : DataW Unit) (w1 : World) (v' : Value) (M' : List Lr) (hD : D' = D.put (.int .i64 t.why) (.lit (.int .i64 ((cnt L t.why : Nat) + 1)))) (hM : M' = kept k (L ++ [t])) (hs : w.heap.size ≤ w1.heap.size) (hA : A0 w1 (Plus S w w1) hb mb k (L.length + 1) D' v' M') =>
    show At w1 (Plus S w w1) hb mb k D' v' (L ++ [t]) from by
      subst hD hM
      exact A0.at (by rw [List.length_append]; exact hA) (h.dat.put h.map.isMap t ht _ rfl) h.few)
  have hq := Lib.hid (cnt_le L t.why)
  have h0 := Lib.hid h.zero
  have hk64 := h.few
  have hone := Lib.hid (kept_one k L t)
  have hmore := Lib.hid (kept_more k L t)
  have hlen := Lib.hid (kept_le k L)
  obtain ⟨a, c, hv⟩ := own_slice_n h.row
  have hm := Lib.hid h.map
  subst hv
  clear h ht
  have c1 := h0.out.c1
  have hq2 := Lib.hid (show cnt L t.why ≤ 65000 by have := hq.out; omega)
  generalize hqe : cnt L t.why = q at *
  generalize hM : kept k L = M at *
  have hMl := Lib.hid (show M.length ≤ 64 by have := hlen.out; omega)
  generalize hle : M.length = len at *
  generalize hn : L.length = n at *
  have hle' := Lib.hid hle
  have q0 : (q : Int) ≤ 65000 := by have := hq2.out; omega
  have l0 : (len : Int) ≤ 64 := by have := hMl.out; omega
  have few' := Lib.hid few
  have hwy' := Lib.hid hwy
  clear hq hqe hM hle hn few hwy hlen
  have kc : (k : Int) ≤ 64 := by omega
  go_enter Try.func9, Try.ntmps9
  go_wp2_with (first
    | (go_at_call 17; (with_reducible refine hr.out.mono ?_); rintro e w1 ⟨rfl, rfl⟩)
    | (at_lookup; refine wpList_lookup_own_int _ rfl _ _ 42 rfl 3 3 .i64 Try.law Try.underlying42 Try.underlying3 (Try.zeroInt _) mb n D rfl hm.out _ _ rfl hkey ?_; intro c hat hwc; obtain rfl := hc.out c hat; clear hat hwc)
    | (at_mapUpdate; refine wpList_mapUpdate_own _ rfl _ _ _ 42 rfl 3 3 Try.law Try.underlying42 _ mb n D rfl hm.out (by have := few'.out; unfold maxLen; omega) _ _ _ rfl rfl hkey _ [] (plainElem_int Try.underlying3 (wf_small (by omega) (by omega))) ?_; intro w1 hown1 hgrow1; obtain ⟨h1, o1⟩ := h0.out.mapped hown1 hgrow1; obtain ⟨a', c', w6, hr6, ⟨f0, f1, f2⟩, hs6⟩ := put_push h1 hle'.out (by have := hMl.out; omega) t #[.int .u64 t.id, .int .i64 t.dst, .int .i64 t.why] rfl; have c2 := h1.c2; have o1' := Lib.hid o1; clear hown1 hgrow1 h1 o1)
    | (at_builtin; refine Lib.wpList_append_run _ rfl (.tmp 23) (.tmp 28) 22 22 rfl _ _ rfl rfl _ _ hr6.out ?_))
  obtain ⟨w7, hw7⟩ : ∃ w7, w7 = w6.setCell ⟨hb, 2, none⟩ (.slice a' (len + 1) c') := ⟨_, rfl⟩
  rw [← hw7] at hs6 ⊢
  have h7 := Lib.hid (hs6.out.1.plus (w1 := w) (fun q hq => Nat.lt_of_lt_of_le (hlt.out q hq) o1'.out.size) o1'.out.size hs6.out.2.size)
  have o7 := Lib.hid (o1'.out.trans hs6.out.2)
  clear f0 f1 f2 hs6 hw7 hr6 o1' c1 c2 hm h0 hr hc
  have d2 := h7.out.c2
  have d0 := h7.out.c0
  have d3 := h7.out.lt_hb
  have hs8 : Hid (w.heap.size ≤ w7.heap.size) := Lib.hid o7.out.size
  by_cases hk : len + 1 ≤ k
  · have hM := hone.out hk
    have hres := Lib.hid (show At w7 (Plus S w w7) hb mb k _ _ (L ++ [t]) from hfin.out _ w7 _ _ rfl hM.symm hs8.out h7.out)
    have hk' : decide ((k : Int) < (len : Int) + 1) = false := decide_eq_false (by omega)
    have hk2 : decide (k < len + 1) = false := decide_eq_false (by omega)
    clear hM h7 hk
    go_quiet (fail)
    go_wp2
    go_ret
    exact ⟨rfl, _, _, hres.out.nil ((Only.refl Nil w7).drewN nq), o7.out.drewN nq⟩
  · have hk' : decide ((k : Int) < (len : Int) + 1) = true := decide_eq_true (by omega)
    have hk2 : decide (k < len + 1) = true := decide_eq_true (by omega)
    have hM := Lib.hid (hmore.out (by omega))
    go_quiet (fail)
    obtain ⟨w8, hw8⟩ : ∃ w8, w8 = w7.drewN nq := ⟨_, rfl⟩
    have o8 : Only Nil w7 w8 := by rw [hw8]; exact (Only.refl Nil w7).drewN nq
    have h8 := h7.out.nil o8
    have o78 := Lib.hid (o7.out.trans (o8.nilTo S))
    have e2 := h8.c2
    have e3 := h8.lt_hb
    rw [← hw8]
    clear hw8 d2 d0 d3 hone hmore hk
    have hlM : (M ++ [t]).length = len + 1 := by rw [List.length_append, hle'.out]; rfl
    have hrow := h8.row
    rw [hlM] at hrow
    obtain ⟨g, rfl⟩ : ∃ g, a' = some ⟨g, 0, none⟩ := by
      rcases hrow.2 with ⟨e, e2⟩ | ⟨g, cc, cur, e, _⟩
      · omega
      · simp only [Value.slice.injEq] at e
        exact ⟨g, e.1⟩
    have hdel := delete_any (L := M ++ [t]) (w := w8) (g := g) (cap := c') (by rw [hlM]; exact hrow) (by have := hMl.out; rw [hlM]; omega) 0 (by rw [hlM]; omega)
    rw [hlM] at hdel
    have hdel' := Lib.hid (show Calls Try.prog 18 #[.slice (some ⟨g, 0, none⟩) (len + 1) c', .int .i64 0, .int .i64 1] w8 _ from hdel)
    have hcw := Lib.hid (fun (w9 : World) (ho : w9.ownsRow 0 29 3 (.slice (some ⟨g, 0, none⟩) (len + 1 - 1) c') (len + 1 - 1) (lrs ((M ++ [t]).eraseIdx 0))) (hon : Only (fun q => q = g) w8 w9) => show
        (w9.cell? ⟨hb, 2, none⟩ = some (.slice (some ⟨g, 0, none⟩) (len + 1) c') ∧ w9.frozen? ⟨hb, 2, none⟩ = false ∧ hb < w9.heap.size) ∧
        Hid ((∃ D' v', At (w9.setCell ⟨hb, 2, none⟩ (.slice (some ⟨g, 0, none⟩) len c')) (Plus S w (w9.setCell ⟨hb, 2, none⟩ (.slice (some ⟨g, 0, none⟩) len c'))) hb mb k D' v' (L ++ [t])) ∧ Only S w (w9.setCell ⟨hb, 2, none⟩ (.slice (some ⟨g, 0, none⟩) len c'))) from by
      have hs := h8.slot (Only.refl Nil w8) rfl (show w9.ownsRow 0 29 3 (.slice (some ⟨g, 0, none⟩) len c') len (lrs ((M ++ [t]).eraseIdx 0)) from ho) (hon.mono (fun q hq => ⟨_, rfl, hq⟩)) (fun x hx => .inl ⟨x, hx, rfl⟩)
      refine ⟨hs.1, Lib.hid ⟨⟨_, _, hfin.out _ _ _ _ rfl ?_ ?_ (hs.2.1.mono ?_ ?_)⟩, ?_⟩⟩
      · rw [hM.out, List.eraseIdx_zero, List.drop_one]
      · exact Nat.le_trans o78.out.size hs.2.2.size
      · rintro q ((hq | hq) | hq)
        · exact .inl hq
        · exact .inr ⟨hq.1, Nat.lt_of_lt_of_le hq.2 (Nat.le_trans o8.size hs.2.2.size)⟩
        · exact .inr ⟨Nat.le_trans o78.out.size hq.1, hq.2⟩
      · rintro q (hq | hq)
        · exact Nat.lt_of_lt_of_le (hlt.out q hq) (Nat.le_trans o78.out.size hs.2.2.size)
        · exact hq.2
      · exact o78.out.then hs.2.2 (fun q hq hlt => by
          rcases hq with hq | hq
          · exact hq
          · omega))
    clear hdel hrow h8 o8 hM hfin hlM h7
    go_wp2_with (go_at_call 18; (with_reducible refine hdel'.out.mono ?_); rintro e w9 ⟨rfl, ho9, hon9⟩; obtain ⟨⟨x1, x2, x3⟩, fin⟩ := hcw.out _ ho9 hon9; clear ho9 hon9)
    go_ret
    obtain ⟨⟨D', v', hA⟩, ho⟩ := fin.out
    exact ⟨rfl, D', v', hA, ho⟩
end Go.Proofs.Ytpkphmemeapdfaa.Dd
