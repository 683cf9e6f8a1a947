/- wheel, the document's: Cut. -/
import Derived.Test.YtpmgmdlfnlmieaaWhTd
namespace Go.Proofs.Ytpmgmdlfnlmieaa.Wh
open Go.RowKit Go.Proofs.Ytpmgmdlfnlmieaa

theorem take_next (L : List Tm) (q : Nat) (hq : q < L.length) : L.take (q + 1) = L.take q ++ [L.getD q default] := by
  rw [List.take_succ_eq_append_getElem hq]; simp [hq]
theorem cut_next (L : List Tm) (x q : Nat) (hq : q < L.length) : cut (L.take (q + 1)) x = if (L.getD q default).id = x then cut (L.take q) x else cut (L.take q) x ++ [L.getD q default] := by
  rw [take_next L q hq]
  unfold cut
  rw [List.filter_append]
  by_cases h : (L.getD q default).id = x
  · rw [if_pos h]; simp only [List.filter_cons, h, beq_self_eq_true, Bool.not_true]; simp
  · rw [if_neg h]
    have e : ((L.getD q default).id == x) = false := beq_eq_false_iff_ne.2 h
    simp only [List.filter_cons, e, Bool.not_false, List.filter_nil]; simp
/-- Is there a timer of that id among the first q? -/
def hit (L : List Tm) (x q : Nat) : Bool := (L.take q).any fun t => t.id == x
theorem hit_next (L : List Tm) (x q : Nat) (hq : q < L.length) : hit L x (q + 1) = (hit L x q || (L.getD q default).id == x) := by
  unfold hit
  rw [take_next L q hq, List.any_append]
  simp

set_option maxRecDepth 100000 in
set_option maxHeartbeats 8000000 in
theorem rcut_any {w : World} {S : Nat → Prop} {i d : Value} {L : List Tm} (h : Rw w S i d L) (hS : ∀ k, S k → k < w.heap.size) (few : L.length ≤ 64) (n x : Nat) :
    Calls Try.prog 13 #[.agg #[.int .i64 (n : Int), i, d], .int .u64 (x : Int)] w fun e w' => ∃ i' d', e = .returned (.tuple #[.agg #[.int .i64 (n : Int), i', d'], .bool (hit L x L.length)]) ∧ Rw w' S i' d' (cut L x) ∧ Only Nil w w' := by
  obtain ⟨b1, b2, b3⟩ := two_blocks w #[.int .i64 (n : Int), i, d] #[.int .i64 0, .slice none 0 0, .slice none 0 0] 29 29
  have mk := Lib.hid (mk_new (m := (n : Int)) b1 b2 b3)
  have hsz : ((w.alloc (.cells #[.int .i64 (n : Int), i, d] 29)).alloc (.cells #[.int .i64 0, .slice none 0 0, .slice none 0 0] 29)).heap.size = w.heap.size + 1 + 1 := by simp
  rw [hsz] at mk
  have hrow := Lib.hid h
  have hS' := Lib.hid hS
  have hcn := Lib.hid (cut_next L x)
  have hhn := Lib.hid (hit_next L x)
  obtain ⟨a, ca, hi⟩ := own_slice_n h.ri
  obtain ⟨b, cb, hd⟩ := own_slice_n h.rd
  have hri := Lib.hid (fun (w' : World) (o : Only Nil w w') => own_keep h.ri o (fun _ _ h => h))
  have hrd := Lib.hid (fun (w' : World) (o : Only Nil w w') => own_keep h.rd o (fun _ _ h => h))
  rw [hi, hd] at mk
  rw [hi] at hri
  rw [hd] at hrd
  have hcl := Lib.hid (fun q => show (cut (L.take q) x).length ≤ 60000 from by
    have h1 := (cut_sub (L.take q) x).length_le
    have h2 := List.length_take_le q L
    have h3 := List.length_take_le' q L
    omega)
  rw [hi, hd]
  clear h hS b1 b2 b3 hsz hi hd hrow
  have hfew := few
  generalize hlen : L.length = len at *
  have hlen' := Lib.hid hlen
  clear hlen
  have hl64 : (len : Int) ≤ 64 := by omega
  go_enter Try.func13, Try.ntmps13
  go_wp2
  go_loopw [7, 8] (fun s7 s8 wr => ∃ (q : Nat) (i' d' : Value), q ≤ len ∧ s8 = .int .i64 (q : Int) ∧ s7 = .bool (hit L x q) ∧ Hid (Mk w wr (KK w.heap.size (w.heap.size + 1) n (.slice a len ca) (.slice b len cb)) (w.heap.size + 1 + 1) n i' d' (cut (L.take q) x) (cut (L.take q) x)))
    (fun _ s8 _ => len - (intOf s8).toNat)
  case atStart => exact ⟨0, _, _, by omega, rfl, by simp [hit], Lib.hid (by simpa [cut] using mk.out)⟩
  case round =>
    obtain ⟨q, i', d', hq, rfl, rfl, hm⟩ := hrel
    obtain ⟨u0, u1, u2, _, _, _, u3⟩ := tri_of (hm.out.box _ _ (.inl ⟨rfl, rfl⟩))
    obtain ⟨v0, v1, v2, v3, v4, v5, v6⟩ := tri_of hm.out.out.head
    by_cases hql : q < len
    · obtain ⟨g1, rfl, l1, c1⟩ := map_in (hri.out _ hm.out.out.only) q hql
      have hqi : (q : Int) < (len : Int) := by omega
      have hqs := Lib.hid hql
      have hcn' := Lib.hid (hcn.out q hql)
      have hhn' := Lib.hid (hhn.out q hql)
      by_cases hz : (L.getD q default).id = x
      · have e1 : Hid (cut (L.take (q + 1)) x = cut (L.take q) x) := Lib.hid (by rw [hcn'.out, if_pos hz])
        have e2 : Hid (hit L x (q + 1) = true) := Lib.hid (by rw [hhn'.out, hz]; simp)
        rw [hz] at c1
        clear hz hq hql
        go_wp2
        go_roundw
        case rel => exact ⟨q + 1, i', d', hqs.out, by go_num, by rw [e2.out], Lib.hid (by rw [e1.out]; exact hm.out)⟩
        case measure => have := hqs.out; simp [intOf]; omega
      · have e1 : Hid (cut (L.take (q + 1)) x = cut (L.take q) x ++ [L.getD q default]) := Lib.hid (by rw [hcn'.out, if_neg hz])
        have e2 : Hid (hit L x (q + 1) = hit L x q) := Lib.hid (by rw [hhn'.out, show ((L.getD q default).id == x) = false from beq_eq_false_iff_ne.2 hz, Bool.or_false])
        have c1' := Lib.hid (show ∀ (w' : World), Only Nil w w' → ∃ g2, (b = some ⟨g2, 0, none⟩ ∧ g2 < w'.heap.size ∧ w'.cell? ⟨g2, q, none⟩ = some (.int .i64 ((L.getD q default).due : Int))) from fun w' o => map_in (hrd.out _ o) q (by have := hqs.out; omega))
        generalize ht : L.getD q default = t at *
        have hz' : ((t.id : Int) == (x : Int)) = false := by rw [beq_eq_false_iff_ne]; omega
        generalize hI : cut (L.take q) x = I at *
        have hIl : I.length ≤ 60000 := by rw [← hI]; exact hcl.out q
        obtain ⟨a5, c5, w5, r5, H5⟩ := hm.out.pushId hIl (X := (wr.alloc (.cells #[.int .u64 (t.id : Int)] 30)).drew) (((Only.refl Nil wr).alloc _).drew) wr.heap.size t (heap_new _ _)
        have r5' := Lib.hid r5
        have hIl' := Lib.hid hIl
        obtain ⟨⟨k5, k5b⟩, M5⟩ := H5.out
        obtain ⟨s0, s1, s2, s3, s4, s5, s6⟩ := tri_of k5b
        have M5' := Lib.hid M5
        clear r5 H5 k5 k5b M5 hI ht hz hq hql hIl
        generalize hx0 : t.id = x0 at *
        generalize hx1 : t.due = x1 at *
        go_wp2
        go_region_law (refine step_append_run rfl (.tmp 27) (.tmp 33) 26 rfl _ _ rfl rfl _ _ r5'.out ?_)
        all_goals
          obtain ⟨w7, hw7⟩ : ∃ w7, w7 = w5.setCell ⟨w.heap.size + 1 + 1, 1, none⟩ (.slice a5 (I.length + 1) c5) := ⟨_, rfl⟩
          rw [← hw7] at M5' ⊢
          clear hw7 u0 u1 u2 u3 v0 v1 v2 v3 v4 v5 v6 c1 l1 s0 s1 s2 s3 s4 s5 s6
          obtain ⟨u0, u1, u2, _, _, _, u3⟩ := tri_of (M5'.out.box _ _ (.inl ⟨rfl, rfl⟩))
          obtain ⟨v0, v1, v2, v3, v4, v5, v6⟩ := tri_of M5'.out.out.head
          obtain ⟨g2, hb2, l2, c2⟩ := c1'.out _ M5'.out.out.only
          subst hb2
          obtain ⟨a8, c8, w8, r8, H8⟩ := M5'.out.pushDue hIl'.out (X := (w7.alloc (.cells #[.int .i64 (x1 : Int)] 3)).drew) (((Only.refl Nil w7).alloc _).drew) w7.heap.size t (by rw [hx1]; exact heap_new _ _)
          have r8' := Lib.hid r8
          obtain ⟨⟨k8, k8b⟩, M8⟩ := H8.out
          obtain ⟨s0, s1, s2, s3, s4, s5, s6⟩ := tri_of k8b
          have M8' := Lib.hid M8
          clear r8 H8 k8 k8b M8
          go_wp2
          go_region_law (refine step_append_run rfl (.tmp 37) (.tmp 43) 27 rfl _ _ rfl rfl _ _ r8'.out ?_)
          all_goals
            go_wp2
            go_roundw
            case rel => exact ⟨q + 1, _, _, hqs.out, by go_num, by rw [e2.out], Lib.hid (by rw [e1.out]; exact M8'.out)⟩
            case measure => have := hqs.out; simp [intOf]; omega
    · obtain rfl : q = len := by omega
      have hk0 : ¬ (q : Int) < (q : Int) := by omega
      have hz := hm.out.box _ _ (.inr ⟨rfl, rfl⟩)
      obtain ⟨z0, z1, z2, z3, z4, z5, z6⟩ := tri_of hz
      have hz' := Lib.hid hz
      have eT : L.take q = L := List.take_of_length_le (by rw [hlen'.out]; exact Nat.le_refl _)
      have hm2 := Lib.hid (show Mk w wr (KK w.heap.size (w.heap.size + 1) n (.slice a q ca) (.slice b q cb)) (w.heap.size + 1 + 1) n i' d' (cut L x) (cut L x) from by have := hm.out; rw [eT] at this; exact this)
      obtain ⟨a9, c9, hi9⟩ := own_slice_n hm2.out.out.ri
      obtain ⟨b9, f9, hd9⟩ := own_slice_n hm2.out.out.rd
      subst hi9 hd9
      have o3 := Lib.hid (set3_only (Only.refl (fun k => k = w.heap.size + 1) wr) (.int .i64 (n : Int)) (.slice a9 (cut L x).length c9) (.slice b9 (cut L x).length f9))
      clear hz eT hm hq hql
      generalize (cut L x).length = m at *
      go_wp2
      refine bodyPost_ret (results_at rfl _ _ (w.heap.size + 1) [.int .i64 (n : Int), .slice a9 m c9, .slice b9 m f9] Try.isAgg29 Try.sizeOf29 rfl (set3_heap hz'.out (.int .i64 (n : Int)) (.slice a9 m c9) (.slice b9 m f9))) rfl ?_
      exact ⟨_, _, rfl, (hm2.out.out.rw hS'.out).keepWheel hz'.out o3.out, hm2.out.out.only.then o3.out (fun k hk hlt => by omega)⟩
end Go.Proofs.Ytpmgmdlfnlmieaa.Wh
